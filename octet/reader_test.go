package octet_test

import (
	"bytes"
	"math"
	"testing"

	"jotter/api"
	"jotter/octet"
)

// wantAt fails the test unless the Reader stands there, with so many left.
func wantAt(t *testing.T, what string, r *octet.Reader, at, left int) {
	t.Helper()
	if r.At() != at || r.Left() != left {
		t.Errorf("%s: At %d, Left %d, want %d, %d", what, r.At(), r.Left(), at, left)
	}
}

func TestReaderFirstExample(t *testing.T) {
	r := octet.NewReader([]byte{1, 2, 3, 4, 5})
	if r.U8() != 1 || r.U16() != 515 || r.Err() != nil {
		t.Errorf("P1.8: U8 and U16")
	}
	wantAt(t, "P1.10: behind U16", r, 3, 2)
	if r.U32() != 0 {
		t.Errorf("P1.8: U32 of two bytes")
	}
	wantFault(t, "P1.8: U32 of two bytes", r.Err(), 3, api.ErrShort)
	if r.U8() != 0 {
		t.Errorf("P1.9: U8 behind an error")
	}
	wantAt(t, "P1.9: behind an error", r, 3, 2)
	if r.Take(0) != nil {
		t.Errorf("P1.9: Take(0) behind an error")
	}
	wantFault(t, "P1.9: the first error", r.Err(), 3, api.ErrShort)
}

func TestReaderOtherExamples(t *testing.T) {
	r := octet.NewReader([]byte{1, 2})
	if got := r.Take(2); !bytes.Equal(got, []byte{1, 2}) {
		t.Errorf("P1.8: Take(2) = % X", got)
	}
	if got := r.Take(0); len(got) != 0 || r.Err() != nil {
		t.Errorf("P1.8: Take(0) = % X, %v", got, r.Err())
	}
	if r.U8() != 0 {
		t.Errorf("P1.8: U8 at the end")
	}
	wantFault(t, "P1.8: U8 at the end", r.Err(), 2, api.ErrShort)
	r = octet.NewReader([]byte{255, 255, 255, 255})
	if got := r.U32(); got != 4294967295 || r.Left() != 0 || r.Err() != nil {
		t.Errorf("P1.8: U32 = %d", got)
	}
	r = octet.NewReader([]byte{0x80, 0x01, 0xFE, 0xDC, 0xBA, 0x98, 0xFF})
	if r.U16() != 0x8001 || r.U32() != 0xFEDCBA98 || r.U8() != 255 || r.Err() != nil {
		t.Errorf("P1.8: numbers with their highest bit")
	}
	wantAt(t, "P1.8: at the end", r, 7, 0)
}

// reads are the calls that move a Reader, by their names; each answers its number, or how many bytes it took.
func reads() map[string]func(*octet.Reader) int {
	return map[string]func(*octet.Reader) int{
		"U8":              func(r *octet.Reader) int { return r.U8() },
		"U16":             func(r *octet.Reader) int { return r.U16() },
		"U32":             func(r *octet.Reader) int { return int(r.U32()) },
		"Take(1)":         func(r *octet.Reader) int { return len(r.Take(1)) },
		"Take(-1)":        func(r *octet.Reader) int { return len(r.Take(-1)) },
		"Take(least)":     func(r *octet.Reader) int { return len(r.Take(math.MinInt)) },
		"Take(greatest)":  func(r *octet.Reader) int { return len(r.Take(math.MaxInt)) },
		"Take(0)":         func(r *octet.Reader) int { return len(r.Take(0)) },
		"Take(too many)":  func(r *octet.Reader) int { return len(r.Take(4)) },
		"Take(all there)": func(r *octet.Reader) int { return len(r.Take(3)) },
	}
}

func TestReadsThatFail(t *testing.T) {
	for name, need := range map[string]int{"U8": 1, "U16": 2, "U32": 4, "Take(1)": 1, "Take(too many)": 4, "Take(greatest)": 4, "Take(-1)": 4, "Take(least)": 4} {
		for left := range need {
			r := octet.NewReader([]byte{7, 7, 9, 9, 9}[:2+left])
			r.U16()
			if got := reads()[name](r); got != 0 {
				t.Errorf("P1.8: %s with %d left = %d", name, left, got)
			}
			wantAt(t, "P1.8: "+name, r, 2, left)
			wantFault(t, "P1.8: "+name, r.Err(), 2, api.ErrShort)
		}
	}
}

func TestFirstErrorStays(t *testing.T) {
	for name, read := range reads() {
		r := octet.NewReader([]byte{1, 2, 3, 4})
		r.U8()
		r.Take(-1)
		for range 3 {
			if got := read(r); got != 0 {
				t.Errorf("P1.9: %s behind an error = %d", name, got)
			}
			wantAt(t, "P1.9: "+name, r, 1, 3)
			wantFault(t, "P1.9: "+name, r.Err(), 1, api.ErrShort)
		}
		if r.Take(2) != nil {
			t.Errorf("P1.9: Take behind an error is not nil")
		}
	}
}

func TestReaderOfNothing(t *testing.T) {
	for _, b := range [][]byte{nil, {}} {
		r := octet.NewReader(b)
		if r == nil {
			t.Fatal("P1.7: NewReader answers nil")
		}
		wantAt(t, "P1.7: of nothing", r, 0, 0)
		if len(r.Take(0)) != 0 || r.Err() != nil {
			t.Errorf("P1.8: Take(0) of nothing: %v", r.Err())
		}
		r.U8()
		wantFault(t, "P1.8: U8 of nothing", r.Err(), 0, api.ErrShort)
	}
}

func TestReaderKeepsItsOwnBytes(t *testing.T) {
	b := []byte{1, 2, 3}
	r := octet.NewReader(b)
	if r.At() != 0 || r.Left() != 3 || r.Err() != nil {
		t.Errorf("P1.7: a new Reader")
	}
	b[0], b[1] = 8, 9
	if r.U8() != 1 || r.U16() != 0x0203 {
		t.Errorf("P1.7: the Reader sees what was written later")
	}
	if !bytes.Equal(b, []byte{8, 9, 3}) {
		t.Errorf("P1.7: the Reader changed its argument: % X", b)
	}
}

func TestAskingChangesNothing(t *testing.T) {
	r := octet.NewReader([]byte{1, 2, 3})
	for range 5 {
		if r.At() != 0 || r.Left() != 3 || r.Err() != nil {
			t.Errorf("P1.10: asking again answers otherwise")
		}
	}
	r.U32()
	for range 5 {
		wantAt(t, "P1.10: asking behind an error", r, 0, 3)
		wantFault(t, "P1.10: asking behind an error", r.Err(), 0, api.ErrShort)
	}
}

func TestReadersShareNothing(t *testing.T) {
	b := []byte{1, 2, 3, 4, 5}
	one, two := octet.NewReader(b), octet.NewReader(b)
	first := one.Take(2)
	clear(first)
	_ = append(first, 9, 9, 9)
	if got := one.Take(3); !bytes.Equal(got, []byte{3, 4, 5}) {
		t.Errorf("P1.11: an answer's memory is the Reader's: % X", got)
	}
	one.U8()
	wantAt(t, "P1.11: the other Reader", two, 0, 5)
	if got := two.Take(5); !bytes.Equal(got, b) || two.Err() != nil {
		t.Errorf("P1.11: the other Reader gives % X, %v", got, two.Err())
	}
	if !bytes.Equal(b, []byte{1, 2, 3, 4, 5}) {
		t.Errorf("P1.11: the argument is changed: % X", b)
	}
}

func TestNobodyChangesTheError(t *testing.T) {
	r := octet.NewReader(nil)
	r.U8()
	if f, ok := r.Err().(*api.Fault); ok {
		f.At, f.Err = 77, api.ErrSum
	}
	wantFault(t, "P1.11: an error that was written into", r.Err(), 0, api.ErrShort)
}

// model is a Reader told in the plainest way.
type model struct {
	data   []byte
	at     int
	failed bool
	place  int
}

func (m *model) take(n int) []byte {
	if !m.failed && (n < 0 || n > len(m.data)-m.at) {
		m.failed, m.place = true, m.at
	}
	if m.failed {
		return nil
	}
	m.at += n
	return m.data[m.at-n : m.at]
}

func (m *model) number(n int) int {
	sum := 0
	for _, c := range m.take(n) {
		sum = sum*256 + int(c)
	}
	return sum
}

func TestReaderAgainstModel(t *testing.T) {
	s := stream(8)
	for round := range 2000 {
		b := s.bytes(int(s.next() % 24))
		r, m := octet.NewReader(b), &model{data: b}
		for range 12 {
			playOne(t, r, m, int(s.next()%5), int(s.next()%7)-1)
			wantAt(t, "P1.10: against the model", r, m.at, len(b)-m.at)
			if m.failed {
				wantFault(t, "P1.9: against the model", r.Err(), m.place, api.ErrShort)
			} else if r.Err() != nil {
				t.Errorf("P1.8: round %d: error %v", round, r.Err())
			}
		}
	}
}

func playOne(t *testing.T, r *octet.Reader, m *model, what, n int) {
	t.Helper()
	switch what {
	case 0:
		if got, want := r.U8(), m.number(1); got != want {
			t.Errorf("P1.8: U8 = %d, want %d", got, want)
		}
	case 1:
		if got, want := r.U16(), m.number(2); got != want {
			t.Errorf("P1.8: U16 = %d, want %d", got, want)
		}
	case 2:
		if got, want := int(r.U32()), m.number(4); got != want {
			t.Errorf("P1.8: U32 = %d, want %d", got, want)
		}
	default:
		if got, want := r.Take(n), m.take(n); !bytes.Equal(got, want) {
			t.Errorf("P1.8: Take(%d) = % X, want % X", n, got, want)
		}
	}
}

func TestReaderReadsWhatWasPut(t *testing.T) {
	s := stream(12)
	for range 200 {
		x, y, z := s.next(), s.next(), s.next()
		r := octet.NewReader(octet.Put32(octet.Put16(octet.Put8(nil, x), y), z))
		if r.U8() != int(uint8(x)) || r.U16() != int(uint16(y)) || r.U32() != uint32(z) || r.Left() != 0 || r.Err() != nil {
			t.Errorf("P1.2, P1.8: %d, %d, %d do not come back", x, y, z)
		}
	}
}
