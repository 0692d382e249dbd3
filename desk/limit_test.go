package desk_test

import (
	"math"
	"slices"
	"strings"
	"testing"

	"jotter/api"
	"jotter/desk"
)

// TestHandsMemory: a hand may give out its own memory and use it for something else at its next edit.
func TestHandsMemory(t *testing.T) {
	for seed := range 500 {
		r := dice(seed)
		p := newPair("some text", 64, nil)
		p.mine.spoil = func(at int, old []api.Elem) {
			for i := range old {
				old[i] = api.Elem{Ch: '?', Client: 9, Seq: at}
			}
		}
		for range 60 {
			p.play(t, someStep(r, len(p.mine.text)))
		}
	}
}

// lender gives its text out with spare room behind it, and keeps all that it gave out beside what that was.
type lender struct {
	hand
	lent, was [][]api.Elem
}

func (l *lender) Doc() []api.Elem {
	out := make([]api.Elem, len(l.text)+3)
	copy(out, l.text)
	for i := range 3 {
		out[len(l.text)+i] = api.Elem{Ch: '!', Client: 8, Seq: i}
	}
	l.lent, l.was = append(l.lent, out), append(l.was, slices.Clone(out))
	return out[:len(l.text)]
}

// TestNothingIsWritten: what the hand gives out is read alone, its spare room too.
func TestNothingIsWritten(t *testing.T) {
	for seed := range 100 {
		r := dice(seed)
		l := &lender{}
		l.puts(0, "some text")
		d := desk.New(l, 64)
		for range 40 {
			s := someStep(r, len(l.text))
			act(d, s)
			for i, list := range l.lent {
				if !slices.Equal(list, l.was[i]) {
					t.Fatalf("P0.2: behind %v a text that the hand gave out is %v, was %v", s, list, l.was[i])
				}
			}
		}
	}
}

// TestGreatTexts: a text of MaxDoc characters that others change wholly, and one beyond all limits.
func TestGreatTexts(t *testing.T) {
	for _, size := range []int{4096, 60000} {
		h, d := sit(t, "", 64)
		for i := range size {
			h.text = append(h.text, api.Elem{Ch: 'a', Client: 2, Seq: i})
		}
		calls(t, "P19.5", d.Move(size), d.Erase(20), d.Move(size-30), d.Erase(-10))
		if d.Caret() != size-30 {
			t.Fatalf("P19.2: Caret %d of %d", d.Caret(), size)
		}
		whole := slices.Clone(h.text)
		h.text = nil
		for i := range size {
			h.text = append(h.text, api.Elem{Ch: 'b', Client: 3, Seq: i})
		}
		if d.Caret() != 0 {
			t.Fatalf("P19.2: Caret %d, want 0", d.Caret())
		}
		calls(t, "P19.7", d.Undo(), d.Undo())
		// Nothing of what stood ahead of the ten is there: they go to the beginning; the twenty find them, and go behind them.
		if len(h.text) != size+30 || d.Caret() != 30 || d.Left() != 4 {
			t.Fatalf("P19.7: %d characters, Caret %d, Left %d", len(h.text), d.Caret(), d.Left())
		}
		h.text = whole[:1]
		wantDesk(t, "P19.2", h, d, "a", seen{0, 4, 0, 2})
	}
}

// TestDeepSides: as many deeds as there can be, without an edit left, with others' work between.
func TestDeepSides(t *testing.T) {
	h, d := sit(t, "", 64)
	for n := range 32 {
		calls(t, "P19.7", d.Type(string(rune('A'+n))))
	}
	for n := range 32 {
		h.puts(n, "x")
		calls(t, "P19.7", d.Undo())
	}
	wantDesk(t, "P19.7", h, d, strings.Repeat("x", 32), seen{see(d).caret, 0, 0, 32})
	wantRefused(t, "P19.7", h, d, d.Redo, api.ErrRoom)
	wantRefused(t, "P19.7", h, d, d.Undo, api.ErrUndo)
}

// liar does nothing that is asked of a hand: it tells another text each time, and answers what it likes.
type liar struct{ turn int }

func (l *liar) Doc() []api.Elem {
	l.turn++
	text := make([]api.Elem, l.turn*7%11)
	for i := range text {
		text[i] = api.Elem{Ch: byte(l.turn * i), Client: i % 3, Seq: l.turn % 4}
	}
	return text
}

func (l *liar) Insert(pos int, ch int) (api.Edit, api.Errno) {
	l.turn++
	return api.Edit{Op: api.Op{Kind: l.turn, Client: l.turn % 3, Seq: -l.turn % 4}}, api.Errno(l.turn % 9 / 8)
}

func (l *liar) Delete(pos int) (api.Edit, api.Errno) {
	l.turn++
	return api.Edit{}, api.Errno(l.turn % 9 / 8)
}

// TestLiars: no call panics, and each ends, even where the hand is none.
func TestLiars(t *testing.T) {
	for seed := range 500 {
		r := dice(seed)
		d := desk.New(&liar{turn: seed}, 64)
		for range 100 {
			act(d, someStep(r, 8))
			d.Caret()
		}
		for _, n := range []int{math.MinInt, math.MaxInt, -1, 0, 1} {
			d.Erase(n)
			d.Move(n)
		}
	}
}
