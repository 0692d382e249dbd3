// Package octet: sums, numbers in bytes, a reader whose first error stays: see shared/doc/01-octet.md.
package octet

import (
	"bytes"

	"jotter/api"
)

// sumSize is how many bytes a sum takes.
const sumSize = 4

// Seal gives b with its sum behind it, the lowest byte first.
func Seal(b []byte) []byte {
	sum := Sum(b)
	out := grow(b, sumSize)
	for range sumSize {
		out = append(out, byte(sum))
		sum >>= 8
	}
	return out
}

// Open takes the sum off, if it is right.
func Open(b []byte) ([]byte, error) {
	k := len(b) - sumSize
	if k < 0 {
		return nil, api.Wrap(len(b), api.ErrShort)
	}
	if Sum(b[:k]) != sealed(b[k:]) {
		return nil, api.Wrap(k, api.ErrSum)
	}
	return bytes.Clone(b[:k]), nil
}

// sealed reads the sum that Seal has put.
func sealed(b []byte) uint32 {
	var sum uint32
	for i, c := range b {
		sum |= uint32(c) << (8 * i)
	}
	return sum
}

// grow copies b into memory with room for more bytes, so that an append never writes into the caller's spare room.
func grow(b []byte, more int) []byte {
	out := make([]byte, len(b), len(b)+more)
	copy(out, b)
	return out
}
