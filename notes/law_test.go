package notes_test

import (
	"math/rand/v2"
	"slices"
	"testing"

	"jotter/api"
	"jotter/doc"
	"jotter/notes"
	"jotter/room"
)

// trail follows the characters of a note's range by the operations alone: where each stands now; those that were deleted are left out.
type trail []int

// newTrail begins at the places from to to - 1.
func newTrail(from, to int) trail {
	var x trail
	for at := from; at < to; at++ {
		x = append(x, at)
	}
	return x
}

// behind gives the trail behind one more operation.
func (x trail) behind(op api.Op) trail {
	var next trail
	for _, at := range x {
		switch {
		case op.Kind == api.Insert && op.Pos <= at:
			next = append(next, at+1)
		case op.Kind == api.Delete && op.Pos == at:
		case op.Kind == api.Delete && op.Pos < at:
			next = append(next, at-1)
		default:
			next = append(next, at)
		}
	}
	return next
}

// stands gives the note of that number as P23.8 says it stands.
func (x trail) stands(id int) api.Note {
	n := api.Note{ID: id, Client: 1, Words: "x", Gone: true}
	if len(x) > 0 {
		n.From, n.To, n.Gone = x[0], x[len(x)-1]+1, false
	}
	return n
}

// wantTrails ends the test unless the notes stand where their trails say, by all that asks for it.
func wantTrails(t *testing.T, b *notes.Board, now []api.Elem, trails []trail) {
	t.Helper()
	var all []api.Note
	covers := make([][]int, len(now)+1)
	for k, x := range trails {
		n := x.stands(k + 1)
		all = append(all, n)
		for at := n.From; at < n.To; at++ {
			covers[at] = append(covers[at], n.ID)
		}
	}
	wantAll(t, b, now, all...)
	for at, ids := range covers {
		wantAt(t, b, now, at, ids...)
	}
	for _, n := range all {
		wantLook(t, b, now, n)
	}
}

// steps gives every operation that fits a text of n characters, with the edit that it is to come from.
func steps(n, seq int) []api.Op {
	all := []api.Op{{Kind: api.Nop, Client: 9, Seq: seq}}
	for pos := 0; pos <= n; pos++ {
		all = append(all, api.Op{Kind: api.Insert, Pos: pos, Ch: 'h', Client: 9, Seq: seq})
		if pos < n {
			all = append(all, api.Op{Kind: api.Delete, Pos: pos, Client: 9, Seq: seq})
		}
	}
	return all
}

// TestStaysWithCharacters: every list of up to four operations on a text of three characters that look alike, with a note at each of its ranges.
func TestStaysWithCharacters(t *testing.T) {
	begin := text(el('h', 1, 1), el('h', 1, 2), el('h', 2, 1))
	b := notes.New()
	var trails []trail
	for from := range begin {
		for to := from + 1; to <= len(begin); to++ {
			mustPut(t, b, begin, from, to, 1, "x", len(trails)+1)
			trails = append(trails, newTrail(from, to))
		}
	}
	var follow func(now []api.Elem, trails []trail, seq int)
	follow = func(now []api.Elem, trails []trail, seq int) {
		wantTrails(t, b, now, trails)
		if seq > 4 {
			return
		}
		for _, op := range steps(len(now), seq) {
			next, e := doc.Apply(now, op)
			if e != api.OK {
				t.Fatalf("doc.Apply(.., %+v): %d", op, e)
			}
			var moved []trail
			for _, x := range trails {
				moved = append(moved, x.behind(op))
			}
			follow(next, moved, seq+1)
		}
	}
	follow(begin, trails, 1)
}

// mixedStep gives an operation that fits a text of n characters and, if it inserts, an element that was never there. fade: of ten so many are deletions.
func mixedStep(r *rand.Rand, n, fade int, had map[api.Elem]int) api.Op {
	op := api.Op{Kind: api.Delete, Client: 1 + r.IntN(64), Seq: 1 + r.IntN(64)}
	if n > 0 && r.IntN(10) < fade {
		op.Pos = r.IntN(n)
		return op
	}
	op.Kind, op.Pos, op.Ch = api.Insert, r.IntN(n+1), "ab"[r.IntN(2)]
	for had[el(op.Ch, op.Client, op.Seq)] > 0 {
		op.Client, op.Seq = 1+r.IntN(64), 1+r.IntN(64)
	}
	had[el(op.Ch, op.Client, op.Seq)]++
	return op
}

// TestStaysWithCharactersLong: long mixed lists of operations, notes put all along the way. Elements that differ in their character alone may stand in one text.
func TestStaysWithCharactersLong(t *testing.T) {
	for seed := range 16 {
		r := dice(seed)
		b, had := notes.New(), map[api.Elem]int{}
		var now []api.Elem
		var trails []trail
		fade := 3 + seed%4
		for range 300 {
			op := mixedStep(r, len(now), fade, had)
			next, e := doc.Apply(now, op)
			if e != api.OK {
				t.Fatalf("doc.Apply(.., %+v): %d", op, e)
			}
			now = next
			for k, x := range trails {
				trails[k] = x.behind(op)
			}
			if len(now) > 0 && len(trails) < 30 && r.IntN(5) == 0 {
				from := r.IntN(len(now))
				to := from + 1 + r.IntN(len(now)-from)
				mustPut(t, b, now, from, to, 1, "x", len(trails)+1)
				trails = append(trails, newTrail(from, to))
			}
			wantTrails(t, b, now, trails)
		}
	}
}

// TestSweptJustIfAllWereDeleted: the notes of which Sweep is asked behind each operation go with the last of their characters.
func TestSweptJustIfAllWereDeleted(t *testing.T) {
	for seed := range 40 {
		r := dice(1000 + seed)
		b, had := notes.New(), map[api.Elem]int{}
		var now []api.Elem
		for range 12 {
			now, _ = doc.Apply(now, mixedStep(r, len(now), 0, had))
		}
		left := map[int]trail{}
		for id := 1; id <= 20; id++ {
			from := r.IntN(len(now))
			to := min(from+1+r.IntN(4), len(now))
			mustPut(t, b, now, from, to, 1, "x", id)
			wantShut(t, b, id, api.OK)
			left[id] = newTrail(from, to)
		}
		for range 60 {
			op := mixedStep(r, len(now), 7, had)
			now, _ = doc.Apply(now, op)
			swept := 0
			for id, x := range left {
				left[id] = x.behind(op)
				if len(left[id]) == 0 {
					delete(left, id)
					swept++
				}
			}
			wantSweep(t, b, now, swept)
			for id := 1; id <= 20; id++ {
				if x, stays := left[id]; stays {
					n := x.stands(id)
					n.Shut = true
					wantLook(t, b, now, n)
				} else {
					wantNoLook(t, b, now, id)
				}
			}
		}
	}
}

// TestInARoom: a note that was put in one user's text stands in the other's, and in the server's, while both write.
func TestInARoom(t *testing.T) {
	r, said := room.Open("clients 2")
	if r == nil {
		t.Fatalf("room.Open: %s", said)
	}
	say := func(lines ...string) {
		t.Helper()
		for _, line := range lines {
			if said := r.Say(line); said[:2] != "ok" {
				t.Fatalf("%s: %s", line, said)
			}
		}
	}
	seen := func(site int) []api.Elem {
		t.Helper()
		d, e := r.Doc(site)
		if e != api.OK {
			t.Fatalf("room.Doc(%d): %d", site, e)
		}
		return d
	}
	settle := slices.Repeat([]string{"round", "all"}, 6)
	say("type 1 the cat sat")
	say(settle...)
	b := notes.New()
	mustPut(t, b, seen(1), 4, 7, 1, "which cat?", 1)
	cat := api.Note{ID: 1, Client: 1, Words: "which cat?", From: 4, To: 7}
	wantLook(t, b, seen(2), cat)

	// User 2 writes ahead of it and in its midst, user 1 takes its first letter away: neither has seen the other.
	say("move 2 0", "type 2 so ", "move 2 9", "type 2 r", "move 1 5", "erase 1 1")
	cat.From, cat.To = 7, 11 // so the cart sat: c a r t
	wantLook(t, b, seen(2), cat)
	cat.From, cat.To = 4, 6 // the at sat
	wantLook(t, b, seen(1), cat)
	say(settle...)
	cat.From, cat.To = 7, 10 // so the art sat
	for site := range 3 {
		if doc.Text(seen(site)) != "so the art sat" {
			t.Fatalf("the text of %d is %q", site, doc.Text(seen(site)))
		}
		wantLook(t, b, seen(site), cat)
	}
	say("move 2 10", "erase 2 3")
	wantLook(t, b, seen(2), api.Note{ID: 1, Client: 1, Words: "which cat?", Gone: true})
	wantLook(t, b, seen(1), cat)
}
