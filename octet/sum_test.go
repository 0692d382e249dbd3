package octet_test

import (
	"hash/crc32"
	"testing"

	"jotter/octet"
)

// slowSum is the document's rule, carried out bit by bit.
func slowSum(b []byte) uint32 {
	register := uint32(0xFFFFFFFF)
	for _, c := range b {
		register ^= uint32(c)
		for range 8 {
			low := register & 1
			register >>= 1
			if low == 1 {
				register ^= 0xEDB88320
			}
		}
	}
	return ^register
}

func TestSumExamples(t *testing.T) {
	for _, c := range []struct {
		in   string
		want uint32
	}{{"", 0}, {"123456789", 0xCBF43926}, {"\x00", 0xD202EF8D}, {"a", 0xE8B7BE43}} {
		if got := octet.Sum([]byte(c.in)); got != c.want {
			t.Errorf("P1.1: Sum(%q) = %08X, want %08X", c.in, got, c.want)
		}
	}
	if got := octet.Sum(nil); got != 0 {
		t.Errorf("P1.1: Sum(nil) = %08X", got)
	}
}

func TestSumOfEveryByte(t *testing.T) {
	for c := range 256 {
		b := []byte{byte(c)}
		if got, want := octet.Sum(b), slowSum(b); got != want {
			t.Errorf("P1.1: Sum(%02X) = %08X, want %08X", c, got, want)
		}
	}
}

func TestSumOfManyLengths(t *testing.T) {
	var s stream
	for n := range 300 {
		b := s.bytes(n)
		if got, want := octet.Sum(b), slowSum(b); got != want || want != crc32.ChecksumIEEE(b) {
			t.Errorf("P1.1: Sum of %d bytes = %08X, want %08X", n, got, want)
		}
	}
	long := s.bytes(1 << 20)
	if octet.Sum(long) != crc32.ChecksumIEEE(long) {
		t.Errorf("P1.1: Sum of a long list")
	}
}

func TestSumLeavesItsBytes(t *testing.T) {
	var s stream
	b := s.bytes(50)
	kept := string(b)
	if octet.Sum(b) != octet.Sum(b) || string(b) != kept {
		t.Errorf("P0.1, P0.2: Sum of the same bytes twice")
	}
}

func TestSumsAddUp(t *testing.T) {
	s := stream(6)
	for n := range 100 {
		a, b, c, d := s.bytes(n), s.bytes(n), s.bytes(n), make([]byte, n)
		for i := range d {
			d[i] = a[i] ^ b[i] ^ c[i]
		}
		if octet.Sum(d) != octet.Sum(a)^octet.Sum(b)^octet.Sum(c) {
			t.Errorf("P1.6: sums of %d bytes do not add up", n)
		}
	}
}
