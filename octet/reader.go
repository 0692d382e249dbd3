package octet

import (
	"bytes"

	"jotter/api"
)

// Reader reads numbers from bytes; its first error stays.
type Reader struct {
	data   []byte
	at     int
	failed bool
}

// NewReader reads from the beginning of b.
func NewReader(b []byte) *Reader { return &Reader{data: bytes.Clone(b)} }

// U8 reads a byte.
func (r *Reader) U8() int { return int(r.number(1)) }

// U16 reads two bytes, the higher first.
func (r *Reader) U16() int { return int(r.number(2)) }

// U32 reads four bytes, the highest first.
func (r *Reader) U32() uint32 { return r.number(4) }

// Take reads n bytes.
func (r *Reader) Take(n int) []byte { return bytes.Clone(r.next(n)) }

// At tells how many bytes were read.
func (r *Reader) At() int { return r.at }

// Left tells how many bytes are left.
func (r *Reader) Left() int { return len(r.data) - r.at }

// Err tells the first error. It is made anew each time, so that nobody can change it for the next who asks; the place is still that of the error, since a Reader that failed moves no more.
func (r *Reader) Err() error {
	if !r.failed {
		return nil
	}
	return api.Wrap(r.at, api.ErrShort)
}

func (r *Reader) number(width int) uint32 {
	var n uint32
	for _, c := range r.next(width) {
		n = n<<8 | uint32(c)
	}
	return n
}

// next moves behind the next n bytes and gives them as they lie in the Reader's own memory: who hands them out copies them. None, if it can't.
func (r *Reader) next(n int) []byte {
	if n < 0 || n > r.Left() {
		r.failed = true
	}
	if r.failed {
		return nil
	}
	from := r.at
	r.at += n
	return r.data[from:r.at]
}
