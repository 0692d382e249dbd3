package desk_test

import (
	"math/rand/v2"
	"slices"
	"testing"

	"jotter/api"
	"jotter/client"
	"jotter/desk"
	"jotter/doc"
)

// act makes one call out of a step.
func act(d *desk.Desk, s step) api.Errno {
	switch s.verb {
	case "type":
		return d.Type(s.text)
	case "erase":
		return d.Erase(s.n)
	case "move":
		return d.Move(s.n)
	case "replace":
		return d.Replace(s.text)
	case "undo":
		return d.Undo()
	case "redo":
		return d.Redo()
	}
	return api.OK
}

// handAct gives a step that is Type, Erase, Replace or Move.
func handAct(r *rand.Rand, size int) step {
	for {
		if s := someStep(r, size); !slices.Contains([]string{"undo", "redo", "puts", "takes"}, s.verb) {
			return s
		}
	}
}

// TestTakingBack: whatever one did alone, each Undo brings back the characters ahead of a call, each Redo those behind it; and so on, as often as the edits suffice.
func TestTakingBack(t *testing.T) {
	for seed := range 2000 {
		r := dice(seed)
		c, d := alone(t, 64)
		if seed%2 == 1 {
			for i := range seed % 8 {
				c.Insert(i, 'a'+i)
			}
		}
		var texts []string // ahead of each call with a deed
		for tries := 0; tries < 40; tries++ {
			text, left := doc.Text(c.Doc()), d.Left()
			s := handAct(r, len(text))
			if s.verb == "replace" && len(s.text) > 4 {
				continue
			}
			act(d, s)
			if d.Left() < left {
				texts = append(texts, text)
			}
			if d.Left() < 50 {
				break
			}
		}
		texts = append(texts, doc.Text(c.Doc()))
		wantTakenBack(t, c, d, texts)
	}
}

// wantTakenBack ends the test unless Undos go down that list of texts and Redos up again, for as long as there are edits.
func wantTakenBack(t *testing.T, c *client.Client, d *desk.Desk, texts []string) {
	t.Helper()
	last := len(texts) - 1
	if undo, _ := d.Depth(); undo != last {
		t.Fatalf("P19.7: Depth %d behind %d calls with a deed", undo, last)
	}
	for n := range 2 * last {
		call, at := d.Undo, last-1-n
		if n >= last {
			call, at = d.Redo, n-last+1
		}
		if e := call(); e == api.ErrRoom || e == api.ErrQuota {
			return
		} else if got := doc.Text(c.Doc()); e != api.OK || got != texts[at] {
			t.Fatalf("P19.9: call %d behind %q: %d, %q, want %q", n, texts, e, got, texts[at])
		}
	}
	d.Move(0)
	wantTakenBack(t, c, d, texts)
}

// TestTakingBackSuffices: the law must not hold because all runs end early.
func TestTakingBackSuffices(t *testing.T) {
	c, d := alone(t, 64)
	calls(t, "P19.9", d.Type("ab"), d.Move(1), d.Erase(1), d.Replace("xb"))
	texts := []string{"", "ab", "b", "xb"}
	for _, at := range []int{2, 1, 0} {
		calls(t, "P19.9", d.Undo())
		wantDesk(t, "P19.9", c, d, texts[at], seen{see(d).caret, see(d).left, at, 3 - at})
	}
	for _, at := range []int{1, 2, 3} {
		calls(t, "P19.9", d.Redo())
		wantDesk(t, "P19.9", c, d, texts[at], seen{see(d).caret, see(d).left, at, 3 - at})
	}
	wantDesk(t, "P19.9", c, d, "xb", seen{1, 64 - 3*4, 3, 0})
}

// TestOthersWorkStays: in mixed runs an Undo or a Redo takes away nothing but elements that this desk's calls made: neither others' nor such as its hand made without it.
func TestOthersWorkStays(t *testing.T) {
	for seed := range 2000 {
		r := dice(seed)
		h, d := sit(t, "text of others", 64)
		made := map[api.Elem]int{}
		for range 50 {
			s := someStep(r, len(h.text))
			before := slices.Clone(h.text)
			switch s.verb {
			case "puts":
				if h.seq%2 == 0 {
					h.puts(s.n, s.text)
				} else {
					h.Insert(s.n, 'h')
				}
				continue
			case "takes":
				if s.n < len(h.text) {
					h.takes(s.n)
				}
				continue
			}
			act(d, s)
			if s.verb == "undo" || s.verb == "redo" {
				wantKept(t, before, h.text, made)
			}
			for _, x := range h.text {
				if !slices.Contains(before, x) {
					made[x] = 1
				}
			}
		}
	}
}

// wantKept ends the test unless all elements that the desk did not make are there as before, in their order.
func wantKept(t *testing.T, before, now []api.Elem, made map[api.Elem]int) {
	t.Helper()
	ours := func(x api.Elem) bool { return made[x] == 1 }
	strange := func(x api.Elem) bool { return !slices.Contains(before, x) }
	want := slices.DeleteFunc(slices.Clone(before), ours)
	got := slices.DeleteFunc(slices.DeleteFunc(slices.Clone(now), ours), strange)
	if !slices.Equal(got, want) {
		t.Fatalf("P19.10: %q became %q: of others there was %q, and is %q", doc.Text(before), doc.Text(now), doc.Text(want), doc.Text(got))
	}
}

// TestUndoBesideOthers: others' characters in the midst of what is taken back.
func TestUndoBesideOthers(t *testing.T) {
	h, d := sit(t, "", 64)
	calls(t, "P19.10", d.Type("abc"))
	h.puts(1, "1")
	h.puts(3, "2")
	h.puts(5, "3")
	h.puts(0, "0")
	wantDesk(t, "P19.10", h, d, "0a1b2c3", seen{6, 61, 1, 0})
	calls(t, "P19.10", d.Undo())
	wantDesk(t, "P19.10", h, d, "0123", seen{1, 58, 0, 1})
	calls(t, "P19.10", d.Redo())
	wantDesk(t, "P19.10", h, d, "0a1b2c3", seen{6, 55, 1, 0})
}

// TestCaretHangs: whatever others put and take, what is there still stands on the side of the caret on which it stood when the caret was put.
func TestCaretHangs(t *testing.T) {
	for seed := range 3000 {
		r := dice(seed)
		h, d := sit(t, "some text of others", 64)
		for range 6 {
			act(d, step{verb: "move", n: r.IntN(len(h.text) + 1)})
			if s := handAct(r, len(h.text)); s.verb != "move" {
				act(d, s)
				if r.IntN(3) == 0 {
					d.Undo()
				}
			}
			at := d.Caret()
			left, right := slices.Clone(h.text[:at]), slices.Clone(h.text[at:])
			for range r.IntN(30) {
				if r.IntN(2) == 0 {
					h.puts(r.IntN(len(h.text)+1), "x")
				} else if len(h.text) > 0 {
					h.takes(r.IntN(len(h.text)))
				}
				wantSides(t, h, d, left, right)
			}
		}
	}
}

// wantSides ends the test unless nothing of the left list stands behind the caret, and nothing of the right one ahead of it.
func wantSides(t *testing.T, h *hand, d *desk.Desk, left, right []api.Elem) {
	t.Helper()
	at := d.Caret()
	if at < 0 || at > len(h.text) {
		t.Fatalf("P19.2: Caret %d of %d characters", at, len(h.text))
	}
	for i, x := range h.text {
		if i < at && slices.Contains(right, x) || i >= at && slices.Contains(left, x) {
			t.Fatalf("P19.11: Caret %d in %q: %q at %d stood on the other side", at, doc.Text(h.text), x.Ch, i)
		}
	}
}

// TestSameCallsSameAnswers: whatever other desks do meanwhile.
func TestSameCallsSameAnswers(t *testing.T) {
	for seed := range 300 {
		var told [2][]string
		for run := range 2 {
			r := dice(seed)
			h, d := sit(t, "text", 64)
			for range 40 {
				s := someStep(r, len(h.text))
				if run == 1 {
					_, other := sit(t, "other", 64)
					calls(t, "P19.12", other.Type("abc"), other.Undo(), other.Redo(), other.Move(1))
				}
				e := act(d, s)
				told[run] = append(told[run], e.Error(), doc.Text(h.text), string(rune(d.Caret())))
			}
		}
		if !slices.Equal(told[0], told[1]) {
			t.Fatalf("P19.12: seed %d: the same calls were answered otherwise", seed)
		}
	}
}

// TestDesksOfAService: clients of one server, a desk each. What they do comes to one text, and each client has made just what its desk has used.
func TestDesksOfAService(t *testing.T) {
	for seed := range 60 {
		r := dice(seed)
		v := serve(t, 3)
		var desks []*desk.Desk
		for _, c := range v.clients {
			desks = append(desks, desk.New(c, 64))
		}
		for range 120 {
			n := r.IntN(3)
			if s := someStep(r, len(v.clients[n].Doc())); s.verb == "puts" || s.verb == "takes" {
				v.round(t)
			} else {
				act(desks[n], s)
			}
		}
		v.settle(t)
		for n, c := range v.clients {
			if c.View().Made != 64-desks[n].Left() {
				t.Fatalf("P19.7: client %d has made %d edits, and its desk has %d left", n+1, c.View().Made, desks[n].Left())
			}
			if !doc.Equal(c.Doc(), v.clients[0].Doc()) {
				t.Fatalf("seed %d: client %d has %q, client 1 has %q", seed, n+1, doc.Text(c.Doc()), doc.Text(v.clients[0].Doc()))
			}
		}
	}
}
