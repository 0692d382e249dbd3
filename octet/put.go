package octet

// Put8 gives b with the number's lowest byte behind it (new memory).
func Put8(b []byte, n uint64) []byte { return put(b, n, 1) }

// Put16 gives b with the number's two lowest bytes behind it, the higher first.
func Put16(b []byte, n uint64) []byte { return put(b, n, 2) }

// Put32 gives b with the number's four lowest bytes behind it, the highest first.
func Put32(b []byte, n uint64) []byte { return put(b, n, 4) }

func put(b []byte, n uint64, width int) []byte {
	out := grow(b, width)
	for i := range width {
		out = append(out, byte(n>>(8*(width-1-i))))
	}
	return out
}
