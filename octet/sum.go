package octet

// polynomial is the CRC-32's, its lowest power in the highest bit, because bytes are taken lowest bit first.
const polynomial = 0xEDB88320

// steps holds what four steps of the register come to, by its lowest four bits. Half a byte at a time keeps the table small.
var steps [16]uint32

func init() {
	for i := range len(steps) {
		steps[i] = fourSteps(uint32(i))
	}
}

// fourSteps shifts the register by four bits, as the rule says it bit by bit.
func fourSteps(register uint32) uint32 {
	for range 4 {
		low := register & 1
		register >>= 1
		if low == 1 {
			register ^= polynomial
		}
	}
	return register
}

// Sum gives the CRC-32 of b.
func Sum(b []byte) uint32 {
	register := ^uint32(0)
	for _, c := range b {
		register ^= uint32(c)
		register = register>>4 ^ steps[register&15]
		register = register>>4 ^ steps[register&15]
	}
	return ^register
}
