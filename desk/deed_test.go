package desk_test

import (
	"strings"
	"testing"

	"jotter/api"
	"jotter/desk"
	"jotter/doc"
)

// calls lets calls be made that must all be well.
func calls(t *testing.T, what string, said ...api.Errno) {
	t.Helper()
	for i, e := range said {
		if e != api.OK {
			t.Fatalf("%s: call %d: %d", what, i, e)
		}
	}
}

// TestDeeds: one a call that made an edit, however many it made; each edit takes one from left.
func TestDeeds(t *testing.T) {
	h, d := sit(t, "..", 64)
	calls(t, "P19.7", d.Type("abc"), d.Erase(2), d.Replace("xyz"), d.Move(0), d.Erase(-1))
	wantDesk(t, "P19.7", h, d, "yz", seen{0, 64 - 3 - 2 - 6 - 1, 4, 0})
}

func TestDeedsCount(t *testing.T) {
	h, d := sit(t, "", 64)
	for n := range 64 {
		wantDesk(t, "P19.7", h, d, strings.Repeat("a", n), seen{n, 64 - n, n, 0})
		calls(t, "P19.7", d.Type("a"))
	}
	wantDesk(t, "P19.7", h, d, strings.Repeat("a", 64), seen{64, 0, 64, 0})
	for what, call := range map[string]func() api.Errno{
		"Type":    func() api.Errno { return d.Type("a") },
		"Erase":   func() api.Errno { return d.Erase(1) },
		"Replace": func() api.Errno { return d.Replace("") },
		"Undo":    d.Undo,
	} {
		wantRefused(t, "P19.7: none is left: "+what, h, d, call, api.ErrRoom)
	}
	wantRefused(t, "P19.7: nothing to redo comes first", h, d, d.Redo, api.ErrRedo)
}

// TestRedoIsEmptied: by a call that made an edit, and by no other.
func TestRedoIsEmptied(t *testing.T) {
	for what, call := range map[string]func(*desk.Desk) api.Errno{
		"Type":    func(d *desk.Desk) api.Errno { return d.Type("b") },
		"Erase":   func(d *desk.Desk) api.Errno { return d.Erase(1) },
		"Erase -": func(d *desk.Desk) api.Errno { return d.Erase(-1) },
		"Replace": func(d *desk.Desk) api.Errno { return d.Replace("..!") },
	} {
		h, d := sit(t, "..", 64)
		calls(t, what, d.Move(1), d.Type("a"), d.Type("b"), d.Undo(), d.Undo())
		wantDesk(t, "P19.7: "+what, h, d, "..", seen{1, 60, 0, 2})
		calls(t, what, d.Type(""), d.Erase(0), d.Replace(".."), d.Move(1))
		for _, e := range []api.Errno{d.Type("\n"), d.Type(strings.Repeat("x", 65)), d.Erase(9), d.Replace("\n"), d.Move(9), d.Undo()} {
			if e == api.OK {
				t.Fatalf("P19.7: %s: a wrong call was taken", what)
			}
		}
		h.refuse = after(0, api.ErrFull)
		wantSaid(t, what, call(d), api.ErrFull)
		h.refuse = nil
		wantDesk(t, "P19.7: no edit was made: "+what, h, d, "..", seen{1, 60, 0, 2})
		calls(t, what, call(d))
		if undo, redo := d.Depth(); undo != 1 || redo != 0 {
			t.Fatalf("P19.7: behind %s: Depth %d, %d, want 1, 0", what, undo, redo)
		}
		wantSaid(t, what, d.Redo(), api.ErrRedo)
	}
}

// TestTakenBackFromTheLast: the edits of a deed in which both kinds stand.
func TestTakenBackFromTheLast(t *testing.T) {
	h, d := sit(t, "abc", 64)
	calls(t, "P19.7", d.Replace("xbz"))
	wantAsked(t, "P19.7", h, "d0 i0x d2 i2z")
	calls(t, "P19.7", d.Undo())
	wantAsked(t, "P19.7", h, "d2 i2c d0 i0a")
	wantDesk(t, "P19.7", h, d, "abc", seen{1, 56, 0, 1})
	calls(t, "P19.7", d.Redo())
	wantAsked(t, "P19.7", h, "d0 i0x d2 i2z")
	wantDesk(t, "P19.7", h, d, "xbz", seen{3, 52, 1, 0})
}

// TestBehindTheFirstThatIsThere: what is inserted anew, when those that stood ahead of it go one by one.
func TestBehindTheFirstThatIsThere(t *testing.T) {
	for gone := range 4 {
		h, d := sit(t, "abcd", 64)
		calls(t, "P19.7", d.Move(4), d.Erase(1))
		h.puts(3, "+")
		h.puts(0, "-")
		for n := range gone {
			h.takes(3 - n)
		}
		calls(t, "P19.7", d.Undo())
		want := []string{"-abcd+", "-abd+", "-ad+", "d-+"}[gone]
		wantDesk(t, "P19.7", h, d, want, seen{strings.Index(want, "d") + 1, 62, 0, 1})
	}
}

// TestNewElementsTakePlaces: in what is left of the deed, in deeds of both sides, as an element that was made, that was taken away, and as one that stood ahead.
func TestNewElementsTakePlaces(t *testing.T) {
	h, d := sit(t, ".", 64)
	calls(t, "P19.7", d.Move(1), d.Type("ab"), d.Undo(), d.Redo())
	wantDesk(t, "P19.7: ahead, in what is left", h, d, ".ab", seen{3, 58, 1, 0})
	calls(t, "P19.7", d.Undo())
	wantDesk(t, "P19.7: made", h, d, ".", seen{1, 56, 0, 1})

	h, d = sit(t, "abc", 64)
	calls(t, "P19.7", d.Move(3), d.Erase(1), d.Erase(1), d.Undo(), d.Undo())
	wantDesk(t, "P19.7: ahead, on the undo side", h, d, "abc", seen{3, 60, 0, 2})
	calls(t, "P19.7", d.Redo(), d.Redo())
	wantDesk(t, "P19.7: made, on the redo side", h, d, "a", seen{1, 58, 2, 0})

	h, d = sit(t, "", 64)
	calls(t, "P19.7", d.Type("b"), d.Type("c"), d.Undo(), d.Undo(), d.Redo(), d.Redo())
	wantDesk(t, "P19.7: ahead, on the redo side", h, d, "bc", seen{2, 58, 2, 0})
	calls(t, "P19.7", d.Undo(), d.Undo())
	wantDesk(t, "P19.7: made, on the undo side", h, d, "", seen{0, 56, 0, 2})

	h, d = sit(t, "", 64)
	calls(t, "P19.7", d.Type("a"), d.Erase(1), d.Undo(), d.Undo(), d.Redo())
	wantDesk(t, "P19.7: the third a", h, d, "a", seen{1, 59, 1, 1})
	calls(t, "P19.7", d.Redo())
	wantDesk(t, "P19.7: made, on the redo side", h, d, "", seen{0, 58, 2, 0})
}

// TestUndoRoom: it counts the edits that would be made, not those of the deed.
func TestUndoRoom(t *testing.T) {
	for gone := range 5 {
		for spare := range 6 {
			h, d := sit(t, "", 4+spare)
			calls(t, "P19.7", d.Type("abcd"))
			for range gone {
				h.takes(0)
			}
			if spare < 4-gone {
				wantRefused(t, "P19.7", h, d, d.Undo, api.ErrRoom)
				continue
			}
			calls(t, "P19.7", d.Undo())
			wantDesk(t, "P19.7", h, d, "", seen{0, spare - (4 - gone), 0, 1})
			if left := d.Left(); left < 4-gone {
				wantRefused(t, "P19.7: all that was taken away", h, d, d.Redo, api.ErrRoom)
				continue
			}
			calls(t, "P19.7", d.Redo())
			wantDesk(t, "P19.7", h, d, "abcd"[gone:], seen{4 - gone, spare - 2*(4-gone), 1, 0})
		}
	}
}

// TestEmptyDeeds: nothing was there to take back, and that is a deed on the other side; it is one with no edit left too.
func TestEmptyDeeds(t *testing.T) {
	h, d := sit(t, "", 2)
	calls(t, "P19.7", d.Type("a"), d.Type("b"))
	h.takes(0)
	h.takes(0)
	h.puts(0, "..")
	d.Move(1)
	h.asked = nil
	for n := range 2 {
		calls(t, "P19.7", d.Undo())
		wantDesk(t, "P19.7", h, d, "..", seen{1, 0, 1 - n, n + 1})
	}
	wantRefused(t, "P19.7", h, d, d.Undo, api.ErrUndo)
	for n := range 2 {
		calls(t, "P19.7", d.Redo())
		wantDesk(t, "P19.7", h, d, "..", seen{1, 0, n + 1, 1 - n})
	}
	wantRefused(t, "P19.7", h, d, d.Redo, api.ErrRedo)
	wantAsked(t, "P19.7", h, "")
}

// TestHandRefuses: at each edit of each call, with any error: what was made by then is the call's deed.
func TestHandRefuses(t *testing.T) {
	for _, wrong := range []api.Errno{api.ErrQuota, api.ErrFull, api.ErrDown, api.ErrRoom, api.ErrUndo, api.Other, -1} {
		for n := range 4 {
			h, d := sit(t, "", 64)
			h.refuse = after(n, wrong)
			wantSaid(t, "P19.8: Type", d.Type("abcd"), wrong)
			wantDesk(t, "P19.8: Type", h, d, "abcd"[:n], seen{n, 64 - n, min(n, 1), 0})

			h, d = sit(t, "abcd", 64)
			d.Move(4)
			h.refuse = after(n, wrong)
			wantSaid(t, "P19.8: Erase", d.Erase(4), wrong)
			wantDesk(t, "P19.8: Erase", h, d, "abcd"[:4-n], seen{4 - n, 64 - n, min(n, 1), 0})

			h, d = sit(t, "abcd", 64)
			h.refuse = after(n, wrong)
			wantSaid(t, "P19.8: Erase behind", d.Erase(-4), wrong)
			wantDesk(t, "P19.8: Erase behind", h, d, "abcd"[n:], seen{0, 64 - n, min(n, 1), 0})

			h, d = sit(t, "abc", 64)
			h.refuse = after(n, wrong)
			wantSaid(t, "P19.8: Replace", d.Replace("xbz"), wrong)
			wantDesk(t, "P19.8: Replace", h, d, []string{"abc", "bc", "xbc", "xb"}[n], seen{[]int{0, 0, 1, 2}[n], 64 - n, min(n, 1), 0})
		}
	}
}

// TestHandRefusesTakingBack: what was left of the deed is forgotten, and the deed of what was made goes to the other side, whatever stands there.
func TestHandRefusesTakingBack(t *testing.T) {
	for n := range 4 {
		h, d := sit(t, "", 64)
		calls(t, "P19.8", d.Type("-"), d.Type("abcd"), d.Type("+"), d.Undo())
		h.refuse, h.asked = after(n, api.ErrQuota), nil
		wantSaid(t, "P19.8: Undo", d.Undo(), api.ErrQuota)
		h.refuse = nil
		wantDesk(t, "P19.8: Undo", h, d, "-abcd"[:5-n], seen{max(5-n, 1), 57 - n, 1, 2})
		calls(t, "P19.8", d.Redo())
		wantDesk(t, "P19.8: the deed of what was made", h, d, "-abcd", seen{5, 57 - 2*n, 2, 1})
		calls(t, "P19.8", d.Undo(), d.Undo())
		wantDesk(t, "P19.8: the rest is forgotten", h, d, "abcd"[:4-n], seen{0, 56 - 3*n, 0, 3})
		calls(t, "P19.8", d.Redo(), d.Redo())

		h.refuse, h.asked = after(0, api.ErrFull), nil
		wantSaid(t, "P19.8: Redo", d.Redo(), api.ErrFull)
		if undo, redo := d.Depth(); undo != 3 || redo != 0 {
			t.Fatalf("P19.8: a refused Redo: Depth %d, %d, want 3, 0", undo, redo)
		}
	}
}

// TestRefusedAnew: where the hand refuses to insert anew, the old element keeps its place in what is remembered, since no new one was made.
func TestRefusedAnew(t *testing.T) {
	h, d := sit(t, "abc", 64)
	calls(t, "P19.8", d.Move(3), d.Erase(2))
	h.refuse = after(len(h.asked)+1, api.ErrFull)
	wantSaid(t, "P19.8", d.Undo(), api.ErrFull)
	h.refuse = nil
	wantDesk(t, "P19.8", h, d, "ab", seen{2, 61, 0, 1})
	calls(t, "P19.8", d.Redo())
	wantDesk(t, "P19.8", h, d, "a", seen{1, 60, 1, 0})
	calls(t, "P19.8", d.Undo())
	wantDesk(t, "P19.8", h, d, "ab", seen{2, 59, 0, 1})
}

// TestDesksOfOneHand: each has its own caret, sides and edits.
func TestDesksOfOneHand(t *testing.T) {
	h, one := sit(t, "", 64)
	two := desk.New(h, 5)
	calls(t, "P19.12", one.Type("abc"), two.Type("xy"))
	wantDesk(t, "P19.12", h, one, "xyabc", seen{5, 61, 1, 0})
	wantDesk(t, "P19.12", h, two, "xyabc", seen{2, 3, 1, 0})
	calls(t, "P19.10", one.Undo())
	wantDesk(t, "P19.12", h, one, "xy", seen{2, 58, 0, 1})
	wantDesk(t, "P19.12", h, two, "xy", seen{2, 3, 1, 0})
	calls(t, "P19.10", two.Undo(), one.Redo())
	if got := doc.Text(h.text); got != "abc" {
		t.Fatalf("P19.10: %q, want abc", got)
	}
	wantDesk(t, "P19.12", h, two, "abc", seen{0, 1, 0, 1})
}
