package notes_test

import (
	"math/rand/v2"
	"slices"
	"strings"
	"testing"

	"jotter/api"
	"jotter/notes"
)

// model is a board by plainer means: a list of notes, by number; a text is gone through place by place, each held against each of a note's elements.
type model struct {
	list []modelNote
}

type modelNote struct {
	there   bool
	elems   []api.Elem
	told    api.Note
	replies []api.Reply
}

// first gives the error that belongs to the first thing that is wrong.
func first(wrong []bool, errs ...api.Errno) api.Errno {
	for k, w := range wrong {
		if w {
			return errs[k]
		}
	}
	return api.OK
}

func wrongHand(client int) bool { return !(1 <= client && client <= 64) }

func wrongWords(words string) bool {
	least, most := byte(255), byte(0)
	for _, c := range []byte(words) {
		least, most = min(least, c), max(most, c)
	}
	return words == "" || len(words) > 120 || least < 32 || most > 126
}

func (m *model) find(id int) *modelNote {
	for k := range m.list {
		if m.list[k].told.ID == id && m.list[k].there {
			return &m.list[k]
		}
	}
	return nil
}

func (m *model) put(doc []api.Elem, from, to, client int, words string) (int, api.Errno) {
	wrong := []bool{from < 0 || to > len(doc) || from >= to, wrongHand(client), wrongWords(words), len(m.list) == 256}
	if e := first(wrong, api.ErrSpan, api.ErrHand, api.ErrWords, api.ErrBoard); e != api.OK {
		return 0, e
	}
	n := modelNote{there: true, told: api.Note{ID: len(m.list) + 1, Client: client, Words: words}}
	n.elems = append(n.elems, doc[from:to]...)
	m.list = append(m.list, n)
	return n.told.ID, api.OK
}

func (m *model) reply(id, client int, words string) api.Errno {
	n := m.find(id)
	wrong := []bool{n == nil, wrongHand(client), wrongWords(words), n != nil && n.told.Shut}
	if e := first(wrong, api.ErrNote, api.ErrHand, api.ErrWords, api.ErrShut); e != api.OK {
		return e
	}
	n.replies = append(n.replies, api.Reply{Client: client, Words: words})
	return api.OK
}

func (m *model) shut(id int) api.Errno {
	n := m.find(id)
	e := first([]bool{n == nil, n != nil && n.told.Shut}, api.ErrNote, api.ErrShut)
	if e == api.OK {
		n.told.Shut = true
	}
	return e
}

func (n *modelNote) in(doc []api.Elem) api.Note {
	told := n.told
	told.Gone = true
	told.Replies = append(told.Replies, n.replies...)
	for at, x := range doc {
		if slices.Contains(n.elems, x) && told.Gone {
			told.From, told.Gone = at, false
		}
		if slices.Contains(n.elems, x) {
			told.To = at + 1
		}
	}
	return told
}

func (m *model) all(doc []api.Elem) []api.Note {
	var all []api.Note
	for k := range m.list {
		if m.list[k].there {
			all = append(all, m.list[k].in(doc))
		}
	}
	return all
}

func (m *model) at(doc []api.Elem, pos int) []int {
	var ids []int
	for _, n := range m.all(doc) {
		if !n.Shut && !n.Gone && n.From <= pos && n.To > pos {
			ids = append(ids, n.ID)
		}
	}
	return ids
}

func (m *model) sweep(doc []api.Elem) int {
	swept := 0
	for _, n := range m.all(doc) {
		if n.Shut && n.Gone {
			m.find(n.ID).there = false
			swept++
		}
	}
	return swept
}

// pair is a board and its model, which get the same calls.
type pair struct {
	*notes.Board
	model
}

// wantSame ends the test unless both tell the same in that text, by all that asks.
func (p *pair) wantSame(t *testing.T, doc []api.Elem) {
	t.Helper()
	all := p.model.all(doc)
	wantAll(t, p.Board, doc, all...)
	for pos := -1; pos <= len(doc)+1; pos++ {
		wantAt(t, p.Board, doc, pos, p.model.at(doc, pos)...)
	}
	for id := -1; id <= len(p.list)+1; id++ {
		if n := p.find(id); n != nil {
			wantLook(t, p.Board, doc, n.in(doc))
		} else {
			wantNoLook(t, p.Board, doc, id)
		}
	}
}

// shortTexts gives every list of up to n of those elements, the same one as often as may be.
func shortTexts(n int, elems ...api.Elem) [][]api.Elem {
	all := [][]api.Elem{nil}
	for last := all; n > 0; n-- {
		var next [][]api.Elem
		for _, doc := range last {
			for _, x := range elems {
				next = append(next, append(slices.Clone(doc), x))
			}
		}
		all = append(all, next...)
		last = next
	}
	return all
}

// TestEveryShortText: notes at all ranges of every short text, looked at in every other.
func TestEveryShortText(t *testing.T) {
	texts := shortTexts(4, el('a', 1, 1), el('b', 1, 1), el('a', 1, 2))
	for _, doc := range texts {
		p := &pair{Board: notes.New()}
		for from := range doc {
			for to := from + 1; to <= len(doc); to++ {
				id, _ := p.put(doc, from, to, 1, "x")
				mustPut(t, p.Board, doc, from, to, 1, "x", id)
			}
		}
		for _, now := range texts {
			p.wantSame(t, now)
		}
	}
}

// mixedText gives a list of up to most elements out of few, so that some of them stand in it twice.
func mixedText(r *rand.Rand, most int) []api.Elem {
	var doc []api.Elem
	for range r.IntN(most + 1) {
		doc = append(doc, el("ab"[r.IntN(2)], 1+r.IntN(2), 1+r.IntN(6)))
	}
	return doc
}

// mixedWords gives words, of ten some that may not be.
func mixedWords(r *rand.Rand) string {
	switch r.IntN(10) {
	case 0:
		return ""
	case 1:
		return "a\x7f"
	case 2:
		return strings.Repeat("w", 119+r.IntN(4))
	}
	return strings.Repeat("so", 1+r.IntN(3))
}

// play has the board and its model do one thing, and holds their answers against one another.
func (p *pair) play(t *testing.T, r *rand.Rand) {
	t.Helper()
	doc, id := mixedText(r, 12), r.IntN(len(p.list)+3)
	client, words := r.IntN(66), mixedWords(r)
	switch r.IntN(8) {
	case 0, 1, 2:
		from := r.IntN(len(doc)+2) - 1
		to := from + r.IntN(5)
		if want, e := p.put(doc, from, to, client, words); e == api.OK {
			mustPut(t, p.Board, doc, from, to, client, words, want)
		} else {
			wantNoPut(t, p.Board, doc, from, to, client, words, e)
		}
	case 3, 4:
		wantReply(t, p.Board, id, client, words, p.reply(id, client, words))
	case 5, 6:
		wantShut(t, p.Board, id, p.shut(id))
	default:
		wantSweep(t, p.Board, doc, p.sweep(doc))
	}
	p.wantSame(t, mixedText(r, 12))
}

// TestModel: mixed calls, behind each of which all that can be seen is held against the model.
func TestModel(t *testing.T) {
	for seed := range 60 {
		r, p := dice(seed), &pair{Board: notes.New()}
		for range 150 {
			p.play(t, r)
		}
	}
}

// TestModelUpToTheLastNumber: the same for so long that no number is left.
func TestModelUpToTheLastNumber(t *testing.T) {
	r, p := dice(77), &pair{Board: notes.New()}
	for range 4000 {
		p.play(t, r)
	}
	if len(p.list) != api.MaxNotes {
		t.Fatalf("only %d numbers were given", len(p.list))
	}
}
