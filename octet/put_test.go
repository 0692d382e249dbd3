package octet_test

import (
	"bytes"
	"testing"

	"jotter/octet"
)

func TestPutExamples(t *testing.T) {
	for _, c := range []struct {
		what      string
		got, want []byte
	}{
		{"Put16(nil, 258)", octet.Put16(nil, 258), []byte{1, 2}},
		{"Put8([41], 0x1FF)", octet.Put8([]byte{0x41}, 0x1FF), []byte{0x41, 0xFF}},
		{"Put32([00], 1)", octet.Put32([]byte{0}, 1), []byte{0, 0, 0, 0, 1}},
		{"Put16([5 6], the greatest)", octet.Put16([]byte{5, 6}, 1<<64-1), []byte{5, 6, 0xFF, 0xFF}},
		{"Put8(nil, 0)", octet.Put8(nil, 0), []byte{0}},
		{"Put8([], 255)", octet.Put8([]byte{}, 255), []byte{255}},
		{"Put8(nil, 256)", octet.Put8(nil, 256), []byte{0}},
		{"Put16(nil, 65535)", octet.Put16(nil, 65535), []byte{255, 255}},
		{"Put16(nil, 65536)", octet.Put16(nil, 65536), []byte{0, 0}},
		{"Put32(nil, 0x0A0B0C0D)", octet.Put32(nil, 0x0A0B0C0D), []byte{10, 11, 12, 13}},
		{"Put32(nil, 1<<32-1)", octet.Put32(nil, 1<<32-1), []byte{255, 255, 255, 255}},
		{"Put32(nil, 1<<32)", octet.Put32(nil, 1<<32), []byte{0, 0, 0, 0}},
		{"Put32(nil, 0x0102030405060708)", octet.Put32(nil, 0x0102030405060708), []byte{5, 6, 7, 8}},
	} {
		if !bytes.Equal(c.got, c.want) {
			t.Errorf("P1.2: %s = % X, want % X", c.what, c.got, c.want)
		}
	}
}

func TestSealExamples(t *testing.T) {
	for _, c := range []struct{ in, want []byte }{
		{nil, []byte{0, 0, 0, 0}},
		{[]byte{}, []byte{0, 0, 0, 0}},
		{[]byte("a"), []byte{0x61, 0x43, 0xBE, 0xB7, 0xE8}},
		{[]byte{0}, []byte{0, 0x8D, 0xEF, 0x02, 0xD2}},
	} {
		if got := octet.Seal(c.in); !bytes.Equal(got, c.want) {
			t.Errorf("P1.3: Seal(% X) = % X, want % X", c.in, got, c.want)
		}
	}
}

func TestSealIsBytesAndSum(t *testing.T) {
	s := stream(3)
	for n := range 80 {
		b := s.bytes(n)
		sum := slowSum(b)
		want := append(bytes.Clone(b), byte(sum), byte(sum>>8), byte(sum>>16), byte(sum>>24))
		if got := octet.Seal(b); !bytes.Equal(got, want) {
			t.Errorf("P1.3: Seal(% X) = % X, want % X", b, got, want)
		}
	}
}

// adders are the calls that answer a list with more behind it.
func adders() map[string]func([]byte) []byte {
	return map[string]func([]byte) []byte{
		"Put8":  func(b []byte) []byte { return octet.Put8(b, 0x11) },
		"Put16": func(b []byte) []byte { return octet.Put16(b, 0x1122) },
		"Put32": func(b []byte) []byte { return octet.Put32(b, 0x11223344) },
		"Seal":  octet.Seal,
	}
}

func TestPutAndSealAnswerNewMemory(t *testing.T) {
	for name, add := range adders() {
		room := bytes.Repeat([]byte{9}, 40)
		first := add(room[:2])
		kept := bytes.Clone(first)
		if !bytes.Equal(room, bytes.Repeat([]byte{9}, 40)) {
			t.Errorf("P1.2, P1.3: %s wrote into the spare room: % X", name, room)
		}
		second := add(room[:2])
		clear(second)
		_ = append(second[:0], bytes.Repeat([]byte{7}, cap(second))...)
		if !bytes.Equal(room, bytes.Repeat([]byte{9}, 40)) || !bytes.Equal(first, kept) {
			t.Errorf("P1.2, P1.3: %s answers shared memory", name)
		}
		clear(room)
		if !bytes.Equal(first, kept) {
			t.Errorf("P0.2: %s keeps what it was given", name)
		}
	}
}

func TestChainsFromOneBeginningDoNotMeet(t *testing.T) {
	start := octet.Put8(nil, 1)
	a, b := octet.Put16(start, 0x0203), octet.Put16(start, 0x0405)
	if !bytes.Equal(a, []byte{1, 2, 3}) || !bytes.Equal(b, []byte{1, 4, 5}) {
		t.Errorf("P1.2: two lists from one beginning: % X and % X", a, b)
	}
}
