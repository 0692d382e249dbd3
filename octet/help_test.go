package octet_test

import (
	"errors"
	"testing"

	"jotter/api"
)

// wantFault fails the test unless err is a *api.Fault of that number and place.
func wantFault(t *testing.T, what string, err error, at int, want api.Errno) {
	t.Helper()
	var f *api.Fault
	if !errors.Is(err, want) || !errors.As(err, &f) || f.At != at {
		t.Errorf("%s: error %v, want %v at %d", what, err, want, at)
	}
	if api.Code(err) != want || api.Place(err) != at {
		t.Errorf("%s: api tells %v at %d, want %v at %d", what, api.Code(err), api.Place(err), want, at)
	}
}

// stream gives numbers that look mixed, the same at every run.
type stream uint64

func (s *stream) next() uint64 {
	*s = *s*6364136223846793005 + 1442695040888963407
	return uint64(*s >> 33)
}

func (s *stream) bytes(n int) []byte {
	b := make([]byte, n)
	for i := range b {
		b[i] = byte(s.next())
	}
	return b
}
