package desk_test

import (
	"math"
	"strings"
	"testing"

	"jotter/api"
	"jotter/client"
	"jotter/desk"
	"jotter/doc"
)

// alone gives a client that nobody else is with, and its desk.
func alone(t *testing.T, edits int) (*client.Client, *desk.Desk) {
	t.Helper()
	c, e := client.New(1)
	if e != api.OK {
		t.Fatalf("client.New(1): %d", e)
	}
	return c, desk.New(c, edits)
}

func TestExamplesOneAndTwo(t *testing.T) {
	c, d := alone(t, 64)
	wantDesk(t, "P19.1", c, d, "", seen{0, 64, 0, 0})
	wantSaid(t, "example 1", d.Type("hi"), api.OK)
	wantDesk(t, "example 1", c, d, "hi", seen{2, 62, 1, 0})
	wantSaid(t, "example 1", d.Move(0), api.OK)
	wantSaid(t, "example 1", d.Type("oh "), api.OK)
	wantDesk(t, "example 1", c, d, "oh hi", seen{3, 59, 2, 0})
	wantSaid(t, "example 1", d.Undo(), api.OK)
	wantDesk(t, "example 1", c, d, "hi", seen{0, 56, 1, 1})
	wantSaid(t, "example 1", d.Redo(), api.OK)
	wantDesk(t, "example 1", c, d, "oh hi", seen{3, 53, 2, 0})

	wantSaid(t, "example 2", d.Erase(1), api.OK)
	wantDesk(t, "example 2", c, d, "ohhi", seen{2, 52, 3, 0})
	wantSaid(t, "example 2", d.Erase(-2), api.OK)
	wantDesk(t, "example 2", c, d, "oh", seen{2, 50, 4, 0})
	wantSaid(t, "example 2", d.Erase(3), api.ErrErase)
	wantSaid(t, "example 2", d.Erase(-1), api.ErrErase)
	wantSaid(t, "example 2", d.Erase(0), api.OK)
	wantDesk(t, "example 2", c, d, "oh", seen{2, 50, 4, 0})
	wantSaid(t, "example 2", d.Undo(), api.OK)
	wantDesk(t, "example 2", c, d, "ohhi", seen{3, 48, 3, 1})
	wantSaid(t, "example 2", d.Undo(), api.OK)
	wantDesk(t, "example 2", c, d, "oh hi", seen{3, 47, 2, 2})
}

func TestExampleThree(t *testing.T) {
	c, d := alone(t, 64)
	for _, e := range []api.Errno{d.Type("a"), d.Erase(1), d.Undo()} {
		wantSaid(t, "example 3", e, api.OK)
	}
	wantDesk(t, "example 3", c, d, "a", seen{1, 61, 1, 1})
	if x := c.Doc()[0]; x != (api.Elem{Ch: 'a', Client: 1, Seq: 3}) {
		t.Fatalf("example 3: the new a is %v", x)
	}
	wantSaid(t, "example 3", d.Undo(), api.OK)
	wantDesk(t, "example 3", c, d, "", seen{0, 60, 0, 2})
}

func TestExampleFour(t *testing.T) {
	v := serve(t, 2)
	one, two := v.clients[0], v.clients[1]
	d := desk.New(one, 64)
	wantSaid(t, "example 4", d.Type("ab"), api.OK)
	v.settle(t)
	two.Insert(1, 'x')
	two.Delete(0)
	v.settle(t)
	wantDesk(t, "example 4", one, d, "xb", seen{2, 62, 1, 0})
	wantSaid(t, "example 4", d.Undo(), api.OK)
	wantDesk(t, "example 4", one, d, "x", seen{1, 61, 0, 1})
	wantSaid(t, "example 4", d.Redo(), api.OK)
	wantDesk(t, "example 4", one, d, "xb", seen{2, 60, 1, 0})
	v.settle(t)
	if doc.Text(two.Doc()) != "xb" {
		t.Fatalf("example 4: the other has %q", doc.Text(two.Doc()))
	}
}

func TestExampleFive(t *testing.T) {
	v := serve(t, 2)
	one, two := v.clients[0], v.clients[1]
	d := desk.New(one, 64)
	wantSaid(t, "example 5", d.Type("ab"), api.OK)
	wantSaid(t, "example 5", d.Move(1), api.OK)
	v.settle(t)
	two.Insert(1, 'x')
	v.settle(t)
	wantDesk(t, "example 5", one, d, "axb", seen{1, 62, 1, 0})
	two.Delete(0)
	v.settle(t)
	wantDesk(t, "example 5", one, d, "xb", seen{0, 62, 1, 0})
}

func TestExampleSix(t *testing.T) {
	c, d := alone(t, 64)
	wantSaid(t, "example 6", d.Type("cat"), api.OK)
	wantSaid(t, "example 6", d.Replace("cart"), api.OK)
	wantDesk(t, "example 6", c, d, "cart", seen{3, 60, 2, 0})
	wantSaid(t, "example 6", d.Replace("cart"), api.OK)
	wantSaid(t, "example 6", d.Replace("\u00e9"), api.ErrType)
	wantSaid(t, "example 6", d.Replace(strings.Repeat("x", 513)), api.ErrWide)
	wantSaid(t, "example 6", d.Move(5), api.ErrCaret)
	wantSaid(t, "example 6", d.Move(-1), api.ErrCaret)
	wantDesk(t, "example 6", c, d, "cart", seen{3, 60, 2, 0})
}

func TestExampleSeven(t *testing.T) {
	c, d := alone(t, 2)
	wantSaid(t, "example 7", d.Type("abc"), api.ErrRoom)
	wantSaid(t, "example 7", d.Type("a\n"), api.ErrType)
	wantDesk(t, "example 7", c, d, "", seen{0, 2, 0, 0})
	wantSaid(t, "example 7", d.Type("ab"), api.OK)
	wantSaid(t, "example 7", d.Undo(), api.ErrRoom)
	wantDesk(t, "example 7", c, d, "ab", seen{2, 0, 1, 0})
	for edits, want := range map[int]int{-5: 0, 1000: 64} {
		if _, d := alone(t, edits); d.Left() != want {
			t.Fatalf("example 7: New(client, %d): Left %d, want %d", edits, d.Left(), want)
		}
	}
}

func TestExampleEight(t *testing.T) {
	c, d := alone(t, 64)
	for range 31 {
		c.Insert(0, 'z')
		c.Delete(0)
	}
	wantSaid(t, "example 8", d.Type("abc"), api.ErrQuota)
	wantDesk(t, "example 8", c, d, "ab", seen{2, 62, 1, 0})
	wantSaid(t, "example 8", d.Undo(), api.ErrQuota)
	wantDesk(t, "example 8", c, d, "ab", seen{2, 62, 0, 1})
}

func TestExampleNine(t *testing.T) {
	c, d := alone(t, 64)
	wantSaid(t, "example 9", d.Undo(), api.ErrUndo)
	wantSaid(t, "example 9", d.Redo(), api.ErrRedo)
	wantSaid(t, "example 9", d.Type(""), api.OK)
	wantDesk(t, "example 9", c, d, "", seen{0, 64, 0, 0})
	for _, e := range []api.Errno{d.Type("a"), d.Undo(), d.Type("b")} {
		wantSaid(t, "example 9", e, api.OK)
	}
	wantSaid(t, "example 9", d.Redo(), api.ErrRedo)
	wantDesk(t, "example 9", c, d, "b", seen{1, 61, 1, 0})
}

// TestNewAsksNothing: any number of edits; neither New, Left nor Depth asks the hand for anything.
func TestNewAsksNothing(t *testing.T) {
	for edits := -70; edits <= 140; edits++ {
		wantNew(t, edits, min(max(edits, 0), 64))
	}
	for _, edits := range []int{math.MinInt, math.MinInt + 1, -1 << 32, -1<<32 + 5} {
		wantNew(t, edits, 0)
	}
	for _, edits := range []int{1 << 32, 1<<32 + 5, 1 << 62, math.MaxInt} {
		wantNew(t, edits, 64)
	}
}

func wantNew(t *testing.T, edits, left int) {
	t.Helper()
	h := &hand{}
	h.puts(0, "some text")
	d := desk.New(h, edits)
	if undo, redo := d.Depth(); d.Left() != left || undo != 0 || redo != 0 {
		t.Fatalf("P19.1: New(%d): Left %d, Depth %d, %d, want %d, 0, 0", edits, d.Left(), undo, redo, left)
	}
	if h.docs != 0 || len(h.asked) != 0 {
		t.Fatalf("P19.1: New, Left and Depth asked the hand: %d times for its text, for %v", h.docs, h.asked)
	}
	if d.Caret() != 0 {
		t.Fatalf("P19.1: New(%d): Caret %d, want 0", edits, d.Caret())
	}
	d.Type("a")
	d.Undo()
	docs := h.docs
	d.Left()
	d.Depth()
	if h.docs != docs {
		t.Fatal("P19.1: Left or Depth asked the hand for its text")
	}
}

// TestMove: each place of texts of some lengths, and places that are none.
func TestMove(t *testing.T) {
	for _, text := range []string{"", "a", "abc", strings.Repeat("x", 4096)} {
		h, d := sit(t, text, 64)
		for pos := 0; pos <= len(text); pos += 1 + len(text)/50 {
			wantSaid(t, "P19.2", d.Move(pos), api.OK)
			wantDesk(t, "P19.2", h, d, text, seen{pos, 64, 0, 0})
		}
		wantSaid(t, "P19.2: at the end", d.Move(len(text)), api.OK)
		for _, pos := range []int{-1, len(text) + 1, math.MinInt, math.MaxInt, -1 << 32, 1 << 32, -len(text) - 1} {
			wantRefused(t, "P19.2", h, d, func() api.Errno { return d.Move(pos) }, api.ErrCaret)
		}
		wantAsked(t, "P19.2: no edit", h, "")
	}
}

// TestCaretHangsOnTheNearest: of those that stood ahead, one by one from the right, then none.
func TestCaretHangsOnTheNearest(t *testing.T) {
	h, d := sit(t, "abcdef", 64)
	d.Move(4)
	h.puts(4, "..")
	h.puts(0, ":")
	wantDesk(t, "P19.2", h, d, ":abcd..ef", seen{5, 64, 0, 0})
	h.takes(4)
	wantDesk(t, "P19.2: behind c", h, d, ":abc..ef", seen{4, 64, 0, 0})
	h.puts(3, "-")
	wantDesk(t, "P19.2: behind c", h, d, ":ab-c..ef", seen{5, 64, 0, 0})
	h.takes(4)
	wantDesk(t, "P19.2: behind b, ahead of what came later", h, d, ":ab-..ef", seen{3, 64, 0, 0})
	h.takes(2)
	h.takes(1)
	wantDesk(t, "P19.2: none is there", h, d, ":-..ef", seen{0, 64, 0, 0})
	h.puts(0, "a")
	wantDesk(t, "P19.2: another a is not that a", h, d, "a:-..ef", seen{0, 64, 0, 0})
}

// TestCaretComparesWhole: elements that differ in one field alone are others.
func TestCaretComparesWhole(t *testing.T) {
	h := &hand{text: []api.Elem{{Ch: 'a', Client: 7, Seq: 3}}}
	d := desk.New(h, 64)
	d.Move(1)
	for _, x := range []api.Elem{{Ch: 'b', Client: 7, Seq: 3}, {Ch: 'a', Client: 8, Seq: 3}, {Ch: 'a', Client: 7, Seq: 4}} {
		h.text = []api.Elem{x}
		wantDesk(t, "P19.2", h, d, string(x.Ch), seen{0, 64, 0, 0})
	}
	h.text = []api.Elem{{Ch: 'z', Client: 7, Seq: 5}, {Ch: 'a', Client: 7, Seq: 3}}
	wantDesk(t, "P19.2", h, d, "za", seen{2, 64, 0, 0})
}

// TestCaretByEdits: where each edit of a call puts it; the caret's whole list is new then.
func TestCaretByEdits(t *testing.T) {
	h, d := sit(t, "abcdef", 64)
	d.Move(3)
	d.Type("xy")
	wantDesk(t, "P19.3", h, d, "abcxydef", seen{5, 62, 1, 0})
	h.takes(4)
	wantDesk(t, "P19.3: x is the next", h, d, "abcxdef", seen{4, 62, 1, 0})
	h.takes(3)
	wantDesk(t, "P19.3: then c", h, d, "abcdef", seen{3, 62, 1, 0})
	d.Erase(-2)
	wantDesk(t, "P19.3", h, d, "abcf", seen{3, 60, 2, 0})
	d.Erase(2)
	wantDesk(t, "P19.3", h, d, "af", seen{1, 58, 3, 0})
	h.takes(0)
	wantDesk(t, "P19.3: a was the last", h, d, "f", seen{0, 58, 3, 0})
	d.Move(1)
	d.Type("")
	d.Erase(0)
	d.Replace("f")
	wantDesk(t, "P19.3: no edit, and the caret stays", h, d, "f", seen{1, 58, 3, 0})
}

// TestNoEditKeepsTheList: a call without an edit does not put the caret, not even where it is.
func TestNoEditKeepsTheList(t *testing.T) {
	for name, call := range map[string]func(*desk.Desk) api.Errno{
		"Type":    func(d *desk.Desk) api.Errno { return d.Type("") },
		"Erase":   func(d *desk.Desk) api.Errno { return d.Erase(0) },
		"Replace": func(d *desk.Desk) api.Errno { return d.Replace("ybc") },
		"Undo":    func(d *desk.Desk) api.Errno { return d.Undo() },
		"Caret":   func(d *desk.Desk) api.Errno { return api.Errno(d.Caret() - 2) },
	} {
		h, d := sit(t, "bc", 64)
		d.Type("a")
		h.takes(0)
		d.Move(1)
		h.puts(0, "y")
		wantSaid(t, "P19.3: "+name, call(d), api.OK)
		// The caret hangs on b alone. Had it been put anew, it would hang on b and y.
		h.takes(1)
		if d.Caret() != 0 {
			t.Fatalf("P19.3: behind %s: Caret %d, want 0", name, d.Caret())
		}
	}
}

// TestTypeCharacters: each byte, at each place of the text.
func TestTypeCharacters(t *testing.T) {
	for b := range 256 {
		for _, text := range []string{string([]byte{byte(b)}), "a" + string([]byte{byte(b)}), string([]byte{byte(b), 'a'})} {
			h, d := sit(t, "..", 64)
			d.Move(1)
			if b < 32 || b > 126 {
				wantRefused(t, "P19.4", h, d, func() api.Errno { return d.Type(text) }, api.ErrType)
				wantRefused(t, "P19.6", h, d, func() api.Errno { return d.Replace(text) }, api.ErrType)
				continue
			}
			wantSaid(t, "P19.4", d.Type(text), api.OK)
			wantDesk(t, "P19.4", h, d, "."+text+".", seen{1 + len(text), 64 - len(text), 1, 0})
		}
	}
	h, d := sit(t, "", 64)
	for _, text := range []string{"\u00e9", "\u0141", "\u2041", "\ufffd", "a\u0161b", "\xc3", "\xed\xa0\x80"} {
		wantRefused(t, "P19.4", h, d, func() api.Errno { return d.Type(text) }, api.ErrType)
		wantRefused(t, "P19.6", h, d, func() api.Errno { return d.Replace(text) }, api.ErrType)
	}
}

// TestTypeInOrder: the bytes at p, p + 1 and so on.
func TestTypeInOrder(t *testing.T) {
	h, d := sit(t, "12345", 64)
	d.Move(2)
	h.puts(1, "-")
	wantSaid(t, "P19.4", d.Type("a b"), api.OK)
	wantAsked(t, "P19.4", h, "i3a i4  i5b")
	wantDesk(t, "P19.4", h, d, "1-2a b345", seen{6, 61, 1, 0})
}

// TestTypeRoom: the bytes are held against what is left; what may not be comes first.
func TestTypeRoom(t *testing.T) {
	for edits := range 66 {
		for n := range 68 {
			h, d := sit(t, "", edits)
			text := strings.Repeat("x", n)
			if n <= min(edits, 64) {
				wantSaid(t, "P19.4", d.Type(text), api.OK)
				wantDesk(t, "P19.4", h, d, text, seen{n, min(edits, 64) - n, min(n, 1), 0})
				continue
			}
			wantRefused(t, "P19.4", h, d, func() api.Errno { return d.Type(text) }, api.ErrRoom)
			wantRefused(t, "P19.4: first named", h, d, func() api.Errno { return d.Type(text + "\x7f") }, api.ErrType)
		}
	}
	h, d := sit(t, "", 64)
	long := strings.Repeat("y", 1<<20)
	wantRefused(t, "P19.4", h, d, func() api.Errno { return d.Type(long) }, api.ErrRoom)
	wantRefused(t, "P19.4", h, d, func() api.Errno { return d.Type(long + "\n") }, api.ErrType)
}

// TestErase: every number at every caret of a text.
func TestErase(t *testing.T) {
	const text = "abcdefg"
	for at := range len(text) + 1 {
		for n := -10; n <= 10; n++ {
			h, d := sit(t, text, 64)
			d.Move(at)
			switch {
			case n > at || -n > len(text)-at:
				wantRefused(t, "P19.5", h, d, func() api.Errno { return d.Erase(n) }, api.ErrErase)
			case n > 0:
				wantSaid(t, "P19.5", d.Erase(n), api.OK)
				wantDesk(t, "P19.5", h, d, text[:at-n]+text[at:], seen{at - n, 64 - n, 1, 0})
			default:
				wantSaid(t, "P19.5", d.Erase(n), api.OK)
				wantDesk(t, "P19.5", h, d, text[:at]+text[at-n:], seen{at, 64 + n, min(-n, 1), 0})
			}
		}
		h, d := sit(t, text, 64)
		d.Move(at)
		for _, n := range []int{math.MinInt, math.MinInt + 1, math.MaxInt, -1 << 32, 1 << 32, 1<<32 + 1, -1<<32 - 1, 1 << 63 / 2} {
			wantRefused(t, "P19.5", h, d, func() api.Errno { return d.Erase(n) }, api.ErrErase)
		}
	}
}

// TestEraseOrder: ahead from the nearest to the farthest, behind at one place.
func TestEraseOrder(t *testing.T) {
	h, d := sit(t, "abcdefg", 64)
	d.Move(4)
	d.Erase(3)
	wantAsked(t, "P19.5", h, "d3 d2 d1")
	d.Erase(-3)
	wantAsked(t, "P19.5", h, "d1 d1 d1")
	d.Erase(0)
	wantAsked(t, "P19.5", h, "")
	wantDesk(t, "P19.5", h, d, "a", seen{1, 58, 2, 0})
}

// TestEraseRoom: behind the characters that must be there.
func TestEraseRoom(t *testing.T) {
	for left := range 6 {
		h, d := sit(t, "abcdefgh", left)
		d.Move(4)
		for _, n := range []int{4, -4, 3, -3, 2, -2, 1, -1} {
			if max(n, -n) > left {
				wantRefused(t, "P19.5", h, d, func() api.Errno { return d.Erase(n) }, api.ErrRoom)
			}
		}
		wantRefused(t, "P19.5: first named", h, d, func() api.Errno { return d.Erase(5) }, api.ErrErase)
		wantRefused(t, "P19.5: first named", h, d, func() api.Errno { return d.Erase(-5) }, api.ErrErase)
		wantSaid(t, "P19.5", d.Erase(-min(left, 4)), api.OK)
		if d.Left() != max(left-4, 0) {
			t.Fatalf("P19.5: Left %d of %d", d.Left(), left)
		}
	}
}

// TestReplaceOperations: those of diff's chapter, at their places, on others' text too.
func TestReplaceOperations(t *testing.T) {
	for _, x := range []struct {
		old, text, asked string
		caret            int
	}{
		{"", "ab", "i0a i1b", 2},
		{"ab", "", "d0 d0", 0},
		{"cat", "cart", "i2r", 3},
		{"abc", "xbz", "d0 i0x d2 i2z", 3},
		{"ab", "ba", "d0 i1a", 2},
		{"ba", "ab", "d0 i1b", 2},
		{"aab", "ab", "d1", 1},
		{"abcabba", "cbabac", "d0 d0 d1 i2a i5c", 6},
		{"same", "same", "", 1},
	} {
		h, d := sit(t, x.old, 64)
		d.Move(min(1, len(x.old)))
		wantSaid(t, "P19.6", d.Replace(x.text), api.OK)
		n := len(h.asked)
		wantAsked(t, "P19.6: "+x.old+" to "+x.text, h, x.asked)
		wantDesk(t, "P19.6", h, d, x.text, seen{x.caret, 64 - n, min(n, 1), 0})
	}
}

// TestReplaceRefuses: how wide both texts are, then the characters, then the room.
func TestReplaceRefuses(t *testing.T) {
	wide, wider := strings.Repeat("w", 512), strings.Repeat("w", 513)
	h, d := sit(t, wide, 64)
	for _, text := range []string{wider, wider[1:] + "\n", "\xff" + wide, strings.Repeat("\n", 513), strings.Repeat("\u00e9", 257), strings.Repeat(wide, 100)} {
		wantRefused(t, "P19.6", h, d, func() api.Errno { return d.Replace(text) }, api.ErrWide)
	}
	wantRefused(t, "P19.6", h, d, func() api.Errno { return d.Replace(wide[1:] + "\n") }, api.ErrType)
	wantRefused(t, "P19.6", h, d, func() api.Errno { return d.Replace(strings.Repeat("\u00e9", 256)) }, api.ErrType)
	wantRefused(t, "P19.6", h, d, func() api.Errno { return d.Replace(wide[65:]) }, api.ErrRoom)
	wantSaid(t, "P19.6: as wide as can be", d.Replace(wide), api.OK)
	wantSaid(t, "P19.6: just the room", d.Replace(wide[64:]), api.OK)
	wantDesk(t, "P19.6", h, d, wide[64:], seen{448, 0, 1, 0})
	wantSaid(t, "P19.6: nothing to do, nothing left", d.Replace(wide[64:]), api.OK)

	h, d = sit(t, wider, 64)
	for _, text := range []string{"", wide, wider, "\n"} {
		wantRefused(t, "P19.6: the hand's text is wide", h, d, func() api.Errno { return d.Replace(text) }, api.ErrWide)
	}
	h.takes(0)
	wantSaid(t, "P19.6: it is not any more", d.Replace(wide), api.OK)
}

// TestReplaceRoom: the distance is held against what is left, for every distance.
func TestReplaceRoom(t *testing.T) {
	for _, left := range []int{0, 1, 2, 7, 32, 63, 64} {
		for n := range 68 {
			h, d := sit(t, strings.Repeat("a", n/2), left)
			text := strings.Repeat("b", n-n/2)
			if n > left {
				wantRefused(t, "P19.6", h, d, func() api.Errno { return d.Replace(text) }, api.ErrRoom)
				continue
			}
			wantSaid(t, "P19.6", d.Replace(text), api.OK)
			wantDesk(t, "P19.6", h, d, text, seen{see(d).caret, left - n, min(n, 1), 0})
		}
	}
}
