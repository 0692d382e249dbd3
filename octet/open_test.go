package octet_test

import (
	"bytes"
	"testing"

	"jotter/api"
	"jotter/octet"
)

func TestOpenTakesSealed(t *testing.T) {
	for _, c := range []struct{ in, want []byte }{
		{[]byte{0, 0, 0, 0}, nil},
		{[]byte{0x61, 0x43, 0xBE, 0xB7, 0xE8}, []byte("a")},
		{[]byte{0, 0x8D, 0xEF, 0x02, 0xD2}, []byte{0}},
	} {
		if got, err := octet.Open(c.in); err != nil || !bytes.Equal(got, c.want) {
			t.Errorf("P1.4: Open(% X) = % X, %v", c.in, got, err)
		}
	}
	s := stream(4)
	for n := range 100 {
		b := s.bytes(n)
		if got, err := octet.Open(octet.Seal(b)); err != nil || !bytes.Equal(got, b) {
			t.Errorf("P1.4: Open(Seal(% X)) = % X, %v", b, got, err)
		}
		twice := octet.Seal(octet.Seal(b))
		if got, err := octet.Open(twice); err != nil || !bytes.Equal(got, octet.Seal(b)) {
			t.Errorf("P1.4: Open of what was sealed twice = % X, %v", got, err)
		}
	}
}

func TestOpenRefuses(t *testing.T) {
	for _, c := range []struct {
		in   []byte
		at   int
		want api.Errno
	}{
		{nil, 0, api.ErrShort},
		{[]byte{}, 0, api.ErrShort},
		{[]byte{0}, 1, api.ErrShort},
		{[]byte{0, 0}, 2, api.ErrShort},
		{[]byte{0, 0, 0}, 3, api.ErrShort},
		{[]byte{1, 0, 0, 0}, 0, api.ErrSum},
		{[]byte{0, 0, 0, 1}, 0, api.ErrSum},
		{[]byte{0, 0, 0, 0, 0}, 1, api.ErrSum},
		{[]byte{0x61, 0x43, 0xBE, 0xB7, 0xE9}, 1, api.ErrSum},
		{[]byte{0x62, 0x43, 0xBE, 0xB7, 0xE8}, 1, api.ErrSum},
		{[]byte{0x61, 0xE8, 0xB7, 0xBE, 0x43}, 1, api.ErrSum},
	} {
		got, err := octet.Open(c.in)
		if got != nil {
			t.Errorf("P1.4: Open(% X) answers % X beside its error", c.in, got)
		}
		wantFault(t, "P1.4: Open", err, c.at, c.want)
	}
}

func TestOpenAnswersNewMemory(t *testing.T) {
	sealed := octet.Seal([]byte("some bytes"))
	kept := bytes.Clone(sealed)
	got, _ := octet.Open(sealed)
	clear(got)
	_ = append(got, 1, 2, 3, 4)
	if !bytes.Equal(sealed, kept) {
		t.Errorf("P1.4: Open answers its argument's memory")
	}
	got, _ = octet.Open(sealed)
	clear(sealed)
	if string(got) != "some bytes" {
		t.Errorf("P0.2: Open keeps its argument: %q", got)
	}
	empty, err := octet.Open(kept[:0:0])
	if empty != nil || err == nil {
		t.Errorf("P1.4: Open of no bytes")
	}
	spare := octet.Seal(nil)
	none, _ := octet.Open(spare)
	_ = append(none, 9, 9, 9, 9)
	if !bytes.Equal(spare, []byte{0, 0, 0, 0}) {
		t.Errorf("P0.2: an empty answer shares the argument's room: % X", spare)
	}
}

func wantSpoilt(t *testing.T, sealed, spoilt []byte) {
	t.Helper()
	got, err := octet.Open(spoilt)
	if err == nil {
		t.Fatalf("P1.5: % X, spoilt to % X, is taken as % X", sealed, spoilt, got)
	}
	wantFault(t, "P1.5", err, len(sealed)-4, api.ErrSum)
}

func TestOneChangedByteIsTold(t *testing.T) {
	s := stream(5)
	for n := range 30 {
		sealed := octet.Seal(s.bytes(n))
		for i := range sealed {
			for mask := 1; mask < 256; mask++ {
				spoilt := bytes.Clone(sealed)
				spoilt[i] ^= byte(mask)
				wantSpoilt(t, sealed, spoilt)
			}
		}
	}
}

func TestFourNeighboursChangedAreTold(t *testing.T) {
	s := stream(55)
	for n := range 40 {
		sealed := octet.Seal(s.bytes(n))
		for i := range len(sealed) - 3 {
			for range 50 {
				spoilt := bytes.Clone(sealed)
				for k, mask := range s.bytes(4) {
					spoilt[i+k] ^= mask
				}
				if !bytes.Equal(spoilt, sealed) {
					wantSpoilt(t, sealed, spoilt)
				}
			}
		}
	}
}
