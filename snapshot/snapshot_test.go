package snapshot_test

import (
	"bytes"
	"errors"
	"slices"
	"testing"

	"jotter/api"
	"jotter/doc"
	"jotter/snapshot"
)

// told is what a state has to answer.
type told struct {
	bytes   []byte
	revs    int
	text    string
	last    map[int][2]int
	waiting map[int][]api.Marked
}

func wantTold(t *testing.T, what string, s *snapshot.Snap, want told) {
	t.Helper()
	if got := s.Bytes(); want.bytes != nil && !bytes.Equal(got, want.bytes) {
		t.Errorf("P21.2: %s: Bytes = % X, want % X", what, got, want.bytes)
	}
	if s.Revs() != want.revs || doc.Text(s.Doc()) != want.text {
		t.Errorf("P21.5: %s: Revs = %d, Doc = %q, want %d, %q", what, s.Revs(), doc.Text(s.Doc()), want.revs, want.text)
	}
	for c := range 70 {
		if seq, tag := s.Last(c - 2); [2]int{seq, tag} != want.last[c-2] {
			t.Errorf("P21.5: %s: Last(%d) = %d, %d, want %v", what, c-2, seq, tag, want.last[c-2])
		}
	}
	for c, list := range want.waiting {
		if got := s.Waiting(c); !slices.Equal(got, list) {
			t.Errorf("P21.5: %s: Waiting(%d) = %s, want %s", what, c, waitingWord(got), waitingWord(list))
		}
	}
}

// exampleStates gives what the states of examples 1, 2, 3 and 4 have to answer, by how many edits they have.
func exampleStates() map[int]told {
	a, b := marked(1, ins(0, 'a', 1, 1)), marked(2, ins(1, 'b', 2, 1))
	none := []api.Marked{}
	all := []api.Marked{a, b, marked(3, ins(2, 'c', 1, 2)), marked(4, del(0, 2, 2)), marked(5, nop(1, 3))}
	return map[int]told{
		0: {bytes: jots(0, 0), waiting: map[int][]api.Marked{0: none, 1: none, 64: none, 65: none}},
		1: {
			bytes: jots(0, 1, 1, 0, 0, 0x61, 1, 1, 0, 0), revs: 1, text: "a",
			last:    map[int][2]int{1: {1, 0}},
			waiting: map[int][]api.Marked{-1: none, 0: none, 1: none, 2: {a}, 64: {a}, 65: none},
		},
		2: {
			bytes: jots(0, 2, 1, 0, 0, 0x61, 1, 1, 1, 0, 1, 0x62, 2, 1, 0, 0, 1, 0, 1, 0, 0, 1, 0, 0), revs: 2, text: "ab",
			last:    map[int][2]int{1: {1, 0}, 2: {1, 0}},
			waiting: map[int][]api.Marked{0: none, 1: {b}, 2: {a}, 3: {a, b}, 65: none},
		},
		5: {
			bytes: jots(0, 5,
				1, 0, 0, 0x61, 1, 1, 1, 0, 1, 0x62, 2, 1, 1, 0, 2, 0x63, 1, 2, 2, 0, 0, 0, 2, 2, 0, 0, 0, 0, 1, 3,
				0, 1, 1, 0, 0, 0, 0, 0,
				0, 1, 1, 0, 1, 0, 0, 0),
			revs: 5, text: "bc",
			last: map[int][2]int{1: {3, 1}, 2: {2, 1}},
			waiting: map[int][]api.Marked{
				1: {marked(2, ins(0, 'b', 2, 1)), marked(4, nop(2, 2))},
				2: {marked(3, ins(1, 'c', 1, 2)), marked(5, nop(1, 3))},
				3: all, 64: all, 0: none, 65: none,
			},
		},
	}
}

// The chapter's examples 1 to 4: states of edits, of their bytes, and of edits that came later.
func TestExampleStates(t *testing.T) {
	for n, want := range exampleStates() {
		s := of(t, five()[:n]...)
		wantTold(t, "Of", s, want)
		wantTold(t, "Read", read(t, want.bytes), want)
		for k := range n + 1 {
			_, next := resumed(t, of(t, five()[:k]...), five()[k:n]...)
			wantTold(t, "Resume", next, want)
			_, next = resumed(t, read(t, of(t, five()[:k]...).Bytes()), five()[k:n]...)
			wantTold(t, "Resume behind Read", next, want)
		}
	}
}

// The chapter's example 4, the done forms.
func TestExampleDone(t *testing.T) {
	s := of(t, pair()...)
	done, _ := resumed(t, s, five()[2:]...)
	if want := []api.Op{ins(2, 'c', 1, 2), del(0, 2, 2), nop(1, 3)}; !slices.Equal(done, want) {
		t.Errorf("P21.6: Resume = %s, want %s", opsWord(done), opsWord(want))
	}
	wantTold(t, "behind Resume", s, exampleStates()[2])
}

// The chapter's example 5, and more that is refused in that state: each edit breaks the rule that is told, and all that come behind it.
func TestExampleRefused(t *testing.T) {
	s := of(t, five()...)
	far := 4000
	for _, c := range []struct {
		what string
		e    api.Edit
		want api.Errno
	}{
		{"no kind", edit(9, api.Op{Kind: 3, Pos: -1, Ch: 7}), api.ErrOpKind},
		{"no kind below 0", edit(9, api.Op{Kind: -1, Pos: -1, Ch: 7}), api.ErrOpKind},
		{"no client", edit(9, ins(-1, 7, 0, 1)), api.ErrWho},
		{"client 65", edit(9, ins(-1, 7, 65, 1)), api.ErrWho},
		{"Seq 0", edit(9, ins(-1, 7, 1, 0)), api.ErrWho},
		{"Seq 65", edit(9, ins(-1, 7, 1, 65)), api.ErrWho},
		{"no character", edit(9, ins(-1, 31, 1, 9)), api.ErrCh},
		{"a character of a Delete", edit(9, api.Op{Kind: api.Delete, Pos: -1, Ch: 'x', Client: 1, Seq: 9}), api.ErrCh},
		{"a character of a Nop", edit(9, api.Op{Ch: 'x', Client: 1, Seq: 9}), api.ErrCh},
		{"no place", edit(9, ins(-1, 'x', 1, 9)), api.ErrPos},
		{"place 4096", edit(9, del(4096, 1, 9)), api.ErrPos},
		{"a Nop with a place", edit(9, api.Op{Pos: 1, Client: 1, Seq: 9}), api.ErrPos},
		{"a Nop in the log already", edit(9, nop(1, 3)), api.ErrNoEdit},
		{"a Nop out of turn", edit(9, nop(1, 9)), api.ErrNoEdit},
		{"the last Seq again", edit(0, ins(far, 'x', 1, 3)), api.ErrDone},
		{"the first Seq again", edit(9, ins(far, 'x', 1, 1)), api.ErrDone},
		{"the very edit again", five()[4], api.ErrDone},
		{"a Seq beyond the next", edit(0, ins(far, 'x', 1, 5)), api.ErrTurn},
		{"Seq 2 of who has none", edit(9, ins(far, 'x', 3, 2)), api.ErrTurn},
		{"a tag below the last", edit(0, ins(far, 'x', 1, 4)), api.ErrTag},
		{"a tag above Revs", edit(6, ins(far, 'x', 1, 4)), api.ErrTag},
		{"a tag above Revs of who has none", edit(6, ins(0, 'x', 3, 1)), api.ErrTag},
		{"a tag below 0", edit(-1, ins(0, 'x', 3, 1)), api.ErrTag},
		{"the greatest tag", edit(1<<62, ins(0, 'x', 3, 1)), api.ErrTag},
		{"the least tag", edit(-1<<63, ins(0, 'x', 3, 1)), api.ErrTag},
		{"a place beyond", edit(1, ins(far, 'x', 1, 4)), api.ErrPlace},
		{"behind all of its own text and one more", edit(1, ins(2, 'x', 1, 4)), api.ErrPlace},
		{"a Delete behind all of its own text", edit(1, del(1, 1, 4)), api.ErrPlace},
		{"behind all of the text and one more", edit(5, ins(3, 'x', 3, 1)), api.ErrPlace},
		{"a Delete at the text's end", edit(5, del(2, 3, 1)), api.ErrPlace},
		{"beyond the empty text", edit(0, ins(1, 'x', 3, 1)), api.ErrPlace},
		{"a Delete in the empty text", edit(0, del(0, 3, 1)), api.ErrPlace},
	} {
		done, next, err := s.Resume([]api.Edit{c.e, edit(5, ins(0, 'x', 3, 1))})
		wantError(t, "P21.6: "+c.what, err, api.Wrap(0, c.want))
		if len(done) != 0 || next == nil {
			t.Fatalf("P21.6: %s: %s, a state %t", c.what, opsWord(done), next != nil)
		}
		wantTold(t, c.what, next, exampleStates()[5])
		if !errors.Is(err, c.want) || api.Code(err) != c.want || api.Place(err) != 0 {
			t.Errorf("P0.3: %s: the error %v", c.what, err)
		}
	}
}

// What can just stand in example 5's state.
func TestExampleTaken(t *testing.T) {
	s := of(t, five()...)
	for _, c := range []struct {
		e    api.Edit
		want api.Op
	}{
		{edit(5, ins(0, 'x', 3, 1)), ins(0, 'x', 3, 1)},
		{edit(5, ins(2, 'x', 3, 1)), ins(2, 'x', 3, 1)},
		{edit(5, del(1, 64, 1)), del(1, 64, 1)},
		{edit(0, ins(0, 'x', 3, 1)), ins(2, 'x', 3, 1)},
		{edit(1, del(0, 3, 1)), nop(3, 1)},
		{edit(1, ins(1, 'x', 1, 4)), ins(2, 'x', 1, 4)},
		{edit(1, ins(0, 'x', 1, 4)), ins(1, 'x', 1, 4)},
		{edit(1, del(0, 1, 4)), del(1, 1, 4)},
		{edit(2, ins(2, 'x', 1, 4)), ins(2, 'x', 1, 4)},
		{edit(5, ins(2, 'x', 1, 4)), ins(2, 'x', 1, 4)},
		{edit(1, ins(1, 'x', 2, 3)), ins(2, 'x', 2, 3)},
	} {
		done, next := resumed(t, s, c.e)
		if done[0] != c.want || next.Revs() != 6 {
			t.Errorf("P21.6: Resume of %s = %s, want %s", editsWord([]api.Edit{c.e}), opsWord(done), opWord(c.want))
		}
	}
	done, next, err := s.Resume([]api.Edit{edit(5, ins(0, 'x', 3, 1)), edit(5, ins(0, 'x', 3, 3)), edit(5, ins(0, 'y', 4, 1))})
	wantError(t, "P21.6: example 5", err, api.Wrap(1, api.ErrTurn))
	if !slices.Equal(done, []api.Op{ins(0, 'x', 3, 1)}) || next == nil || next.Revs() != 6 || doc.Text(next.Doc()) != "xbc" {
		t.Errorf("P21.6: example 5: %s", opsWord(done))
	}
}

// The chapter's example 6, and lists in which more is wrong.
func TestOfRefused(t *testing.T) {
	a := edit(0, ins(0, 'a', 1, 1))
	for _, c := range []struct {
		edits  []api.Edit
		stands int
		want   api.Errno
	}{
		{[]api.Edit{a, edit(0, ins(5, 'b', 2, 1))}, 1, api.ErrPlace},
		{[]api.Edit{a, edit(0, ins(5, 'b', 2, 1)), edit(0, ins(0, 'b', 2, 1)), {}}, 1, api.ErrPlace},
		{[]api.Edit{edit(0, del(0, 1, 1))}, 0, api.ErrPlace},
		{[]api.Edit{{}}, 0, api.ErrWho},
		{[]api.Edit{edit(0, nop(1, 1))}, 0, api.ErrNoEdit},
		{[]api.Edit{edit(1, ins(0, 'a', 1, 1))}, 0, api.ErrTag},
		{[]api.Edit{a, a}, 1, api.ErrDone},
		{[]api.Edit{a, edit(0, ins(0, 'b', 1, 3))}, 1, api.ErrTurn},
		{append(five(), edit(0, ins(0, 'b', 1, 4)), a), 5, api.ErrTag},
	} {
		s, err := snapshot.Of(c.edits)
		wantError(t, "P21.1: Of "+editsWord(c.edits), err, api.Wrap(c.stands, c.want))
		if s == nil {
			t.Fatalf("P21.1: Of %s: no state", editsWord(c.edits))
		}
		wantTold(t, "Of with one that cannot stand", s, exampleStates()[c.stands])
	}
	for _, none := range [][]api.Edit{nil, {}} {
		s, err := snapshot.Of(none)
		if s == nil || err != nil {
			t.Fatalf("P21.1: Of no edit: a state %t, the error %v", s != nil, err)
		}
		wantTold(t, "Of no edit", s, exampleStates()[0])
	}
}
