package snapshot_test

import (
	"bytes"
	"errors"
	"testing"

	"jotter/api"
	"jotter/snapshot"
)

// one and two give the bytes of the chapter's examples 2 and 3.
func one() []byte { return exampleStates()[1].bytes }

func two() []byte { return exampleStates()[2].bytes }

// The chapter's example 7.
func TestExampleRead(t *testing.T) {
	wantRefused(t, "nothing", nil, 0, api.ErrSnapForm)
	wantRefused(t, "no byte", []byte{}, 0, api.ErrSnapForm)
	wantRefused(t, "four bytes 00", make([]byte, 4), 0, api.ErrSnapForm)
	spoilt := one()
	spoilt[17]++
	wantRefused(t, "another last byte", spoilt, 14, api.ErrSnapSum)
	wantRefused(t, "the tag 1", turned(one(), 13, 1), 12, api.ErrSnapRule)
	wantRefused(t, "a record at 1 of the empty text", turned(one(), 8, 1), 6, api.ErrSnapRule)
	wantRefused(t, "one byte more", sealed(append(one()[:14:14], 0)), 14, api.ErrSnapForm)
}

// The chapter's example 8.
func TestExampleForms(t *testing.T) {
	wantRefused(t, "i2b of a text of one character", turned(two(), 22, 2), 18, api.ErrSnapRule)
	b := turned(turned(two(), 20, 0), 22, 0)
	s := read(t, b)
	want := exampleStates()[2]
	want.bytes = b
	want.waiting[1] = []api.Marked{marked(2, nop(2, 1))}
	wantTold(t, "with a Nop", s, want)
	for pos, wrong := range []error{nil, nil, nil, api.Wrap(0, api.ErrPlace)} {
		_, _, err := s.Resume([]api.Edit{edit(0, ins(pos, 'x', 1, 2))})
		wantError(t, "P21.6: client 1's room is 2", err, wrong)
	}
}

// wrong is bytes that are no state's, and what must be told of them.
type wrong struct {
	what string
	b    []byte
	at   int
	e    api.Errno
}

// wrongs gives bytes that break each rule, at its edge and with something wrong behind it that would be told otherwise.
func wrongs() []wrong {
	records := []byte{0, 3, 1, 0, 0, 'a', 1, 1, 2, 0, 0, 0, 1, 2, 0, 0, 0, 0, 2, 1}
	return []wrong{
		{"one byte", []byte{1}, 1, api.ErrSnapForm},
		{"three bytes", []byte("JOT"), 3, api.ErrSnapForm},
		{"four bytes that are no sum", []byte("JOTS"), 0, api.ErrSnapSum},
		{"no sum and no heading", []byte("jots, but no sum"), 12, api.ErrSnapSum},
		{"three of the heading", sealed([]byte("JOT")), 0, api.ErrSnapForm},
		{"another heading", sealed([]byte("JOTT\x00\x00")), 0, api.ErrSnapForm},
		{"another heading, Revs beyond", sealed([]byte("KOTS\xff\xff")), 0, api.ErrSnapForm},
		{"the heading alone", jots(), 4, api.ErrSnapForm},
		{"one byte of Revs", jots(255), 4, api.ErrSnapForm},
		{"Revs of 4097", jots(16, 1), 4, api.ErrSnapRule},
		{"Revs of 65535", jots(255, 255, 9), 4, api.ErrSnapRule},
		{"Revs of 4096, no record", jots(16, 0), 6, api.ErrSnapForm},
		{"no record, a byte more", jots(0, 0, 0), 6, api.ErrSnapForm},
		{"five bytes of a wrong record", jots(0, 1, 9, 9, 9, 9, 9), 6, api.ErrSnapForm},
		{"a wrong record, nothing behind it", jots(0, 2, 9, 9, 9, 9, 9, 9), 6, api.ErrSnapRule},
		{"a second record that is not whole", jots(0, 2, 1, 0, 0, 'a', 1, 1, 1, 0, 1, 'b', 2), 12, api.ErrSnapForm},
		{"no kind", turned(one(), 6, 3), 6, api.ErrSnapRule},
		{"a Nop with a character", turned(one(), 6, 0), 6, api.ErrSnapRule},
		{"a Delete with a character", turned(one(), 6, 2), 6, api.ErrSnapRule},
		{"a Delete in the empty text", turned(turned(one(), 6, 2), 9, 0), 6, api.ErrSnapRule},
		{"an Insert at 256", turned(one(), 7, 1), 6, api.ErrSnapRule},
		{"the character 127", turned(one(), 9, 127), 6, api.ErrSnapRule},
		{"client 0", turned(one(), 10, 0), 6, api.ErrSnapRule},
		{"client 65", turned(one(), 10, 65), 6, api.ErrSnapRule},
		{"client 255", turned(one(), 10, 255), 6, api.ErrSnapRule},
		{"Seq 0", turned(one(), 11, 0), 6, api.ErrSnapRule},
		{"Seq 2 first", turned(one(), 11, 2), 6, api.ErrSnapRule},
		{"Seq 1 twice", turned(two(), 16, 1), 12, api.ErrSnapRule},
		{"Seq 2 of another client", turned(two(), 17, 2), 12, api.ErrSnapRule},
		{"a second record at 2 of one character", turned(two(), 14, 2), 12, api.ErrSnapRule},
		{"no tag", jots(0, 1, 1, 0, 0, 'a', 1, 1), 12, api.ErrSnapForm},
		{"one byte of a tag", jots(0, 1, 1, 0, 0, 'a', 1, 1, 9), 12, api.ErrSnapForm},
		{"a tag of 256", turned(one(), 12, 1), 12, api.ErrSnapRule},
		{"client 1's tag its last Rev, no second tag", jots(0, 2, 1, 0, 0, 'a', 1, 1, 1, 0, 1, 'b', 2, 1, 0, 1), 18, api.ErrSnapRule},
		{"two bytes of a form", jots(0, 2, 1, 0, 0, 'a', 1, 1, 1, 0, 1, 'b', 2, 1, 0, 0, 7, 7), 20, api.ErrSnapForm},
		{"no form", jots(0, 2, 1, 0, 0, 'a', 1, 1, 1, 0, 1, 'b', 2, 1, 0, 0), 20, api.ErrSnapForm},
		{"a form of another kind", turned(two(), 20, 2), 20, api.ErrSnapRule},
		{"a form of no kind", turned(two(), 20, 3), 20, api.ErrSnapRule},
		{"a Nop with a place", turned(two(), 20, 0), 20, api.ErrSnapRule},
		{"a form at 4096", turned(turned(two(), 21, 16), 22, 0), 20, api.ErrSnapRule},
		{"a form at 65535", turned(turned(two(), 21, 255), 22, 255), 20, api.ErrSnapRule},
		{"a form at 4095 that does not fit", turned(turned(two(), 21, 15), 22, 255), 18, api.ErrSnapRule},
		{"a form at 256 that does not fit", turned(two(), 21, 1), 18, api.ErrSnapRule},
		{"client 2's form that does not fit", turned(two(), 27, 2), 23, api.ErrSnapRule},
		{"a room that does not fit, the next tag not whole", sealed(turned(two(), 22, 2)[:24]), 18, api.ErrSnapRule},
		{"client 2's tag 2", turned(two(), 24, 2), 23, api.ErrSnapRule},
		{"client 2's tag 1, its form left over", turned(two(), 24, 1), 25, api.ErrSnapForm},
		{"a room of -1", jots(append(records, 0, 1, 0, 0, 0, 0, 0, 1, 0, 0, 0, 0, 0)...), 29, api.ErrSnapRule},
		{"a room of -1, its first form a Nop", jots(0, 4, 1, 0, 0, 'a', 1, 1, 1, 0, 0, 'b', 1, 2, 2, 0, 0, 0, 1, 3, 2, 0, 0, 0, 2, 1, 0, 0, 2, 0, 0, 0, 0, 0, 0, 0, 1, 0, 0, 0, 0, 0), 35, api.ErrSnapRule},
	}
}

func TestReadRules(t *testing.T) {
	for _, c := range wrongs() {
		wantRefused(t, c.what, c.b, c.at, c.e)
		_, err := snapshot.Read(c.b)
		var f *api.Fault
		if !errors.Is(err, c.e) || !errors.As(err, &f) || f.At != c.at || api.Code(err) != c.e {
			t.Errorf("P0.3: %s: the error %v", c.what, err)
		}
		if _, want := modelRead(c.b); api.Code(want) != c.e || api.Place(want) != c.at {
			t.Errorf("%s: the model tells %v", c.what, want)
		}
	}
}

// TestReadAllowed: what no log comes to, but no rule forbids.
func TestReadAllowed(t *testing.T) {
	records := []byte{0, 3, 1, 0, 0, 'a', 1, 1, 2, 0, 0, 0, 1, 2, 0, 0, 0, 0, 2, 1}
	for what, b := range map[string][]byte{
		"no record":                             jots(0, 0),
		"client 64":                             turned(one(), 10, 64),
		"the character 32":                      turned(one(), 9, 32),
		"the character 126":                     turned(one(), 9, 126),
		"a Nop as the only record":              jots(0, 1, 0, 0, 0, 0, 7, 1, 0, 0),
		"a tag one below the last Rev":          jots(append(records, 0, 1, 0, 0, 0, 0, 2)...),
		"all forms Nops":                        jots(append(records, 0, 1, 0, 0, 0, 0, 0, 0, 0, 0, 0, 0, 0)...),
		"a room of 0":                           jots(append(records, 0, 0, 0, 0, 0, 0, 0, 1, 0, 0, 2, 0, 0)...),
		"a room of 1":                           jots(append(records, 0, 0, 0, 0, 0, 0, 0, 0, 0, 0, 2, 0, 0)...),
		"a form at the room's end":              turned(two(), 22, 1),
		"a form ahead of all":                   turned(two(), 22, 0),
		"a Nop of an Insert":                    turned(turned(two(), 20, 0), 22, 0),
		"another place of what came behind all": turned(two(), 27, 1),
	} {
		s, m := wantRead(t, b)
		if s == nil {
			t.Fatalf("P21.3: Read of %s is refused", what)
		}
		wantSame(t, what, s, m)
	}
}

// smallStates gives some states of a few records.
func smallStates(t *testing.T) []*snapshot.Snap {
	t.Helper()
	r := dice(1)
	states := []*snapshot.Snap{of(t), of(t, pair()...), of(t, five()...)}
	for n := range 5 {
		states = append(states, of(t, mixed(t, r, 2+n, 4+2*n)...))
	}
	return states
}

// TestChangedAnywhere: each byte of a state's as each other byte, the sum as it was and made right.
func TestChangedAnywhere(t *testing.T) {
	taken := 0
	for _, s := range smallStates(t) {
		b := s.Bytes()
		for at := range b {
			for to := range 256 {
				if at < len(b)-4 {
					if s, _ := wantRead(t, turned(b, at, byte(to))); s != nil {
						taken++
					}
				}
			}
			for _, mask := range []byte{1, 8, 128, 255} {
				spoilt := bytes.Clone(b)
				spoilt[at] ^= mask
				wantRefused(t, "a byte changed", spoilt, len(b)-4, api.ErrSnapSum)
			}
		}
	}
	if taken < 1000 {
		t.Fatalf("the bytes tell too little: %d are taken", taken)
	}
}

// TestCutAndLonger: the first bytes of a state's alone, and more behind them, with a right sum and without one.
func TestCutAndLonger(t *testing.T) {
	for _, s := range smallStates(t) {
		b := s.Bytes()
		for n := range len(b) {
			wantRead(t, b[:n])
			wantRead(t, b[n:])
			if n < len(b)-4 {
				if s, _ := wantRead(t, sealed(b[:n])); s != nil {
					t.Fatalf("P21.2: the first %d bytes of % X are a state too", n, b)
				}
			}
		}
		for n := range 12 {
			wantRead(t, append(bytes.Clone(b), make([]byte, n)...))
			body := append(bytes.Clone(b[:len(b)-4]), make([]byte, n+1)...)
			wantRefused(t, "more bytes", sealed(body), len(b)-4, api.ErrSnapForm)
		}
	}
}

// TestAnyBytes: bytes that are hardly a state, with a right heading and sum or without.
func TestAnyBytes(t *testing.T) {
	r := dice(2)
	for range 20000 {
		b := make([]byte, r.IntN(40))
		for i := range b {
			b[i] = byte(r.IntN(256))
			if r.IntN(4) > 0 {
				b[i] = byte(r.IntN(3))
			}
		}
		wantRead(t, b)
		wantRead(t, sealed(b))
		wantRead(t, jots(b...))
	}
}
