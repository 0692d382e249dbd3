package notes_test

import (
	"fmt"
	"math"
	"slices"
	"strings"
	"sync"
	"testing"

	"jotter/api"
	"jotter/notes"
)

// TestAllNumbersUsed: the chapter's sixth example; what was swept gives no number back.
func TestAllNumbersUsed(t *testing.T) {
	b, T := notes.New(), exampleText()
	for id := 1; id <= 256; id++ {
		mustPut(t, b, T, 0, 1, 5, "n", id)
	}
	wantNoPut(t, b, T, 0, 1, 5, "x", api.ErrBoard)
	wantNoPut(t, b, T, 0, 0, 5, "x", api.ErrSpan)
	wantReply(t, b, 256, 1, "y", api.OK)
	wantShut(t, b, 256, api.OK)
	wantSweep(t, b, nil, 1)
	wantNoPut(t, b, T, 0, 1, 5, "x", api.ErrBoard)
	wantNoPut(t, b, T, 0, 0, 5, "x", api.ErrSpan)
	for id := 1; id <= 255; id++ {
		wantShut(t, b, id, api.OK)
	}
	wantSweep(t, b, nil, 255)
	wantAll(t, b, T)
	wantNoPut(t, b, T, 0, 1, 5, "x", api.ErrBoard)
	wantNoLook(t, b, T, 256)
}

// TestRefusedTakesNoNumber: of many calls that were refused nothing is left.
func TestRefusedTakesNoNumber(t *testing.T) {
	b, T := notes.New(), exampleText()
	for range 300 {
		wantNoPut(t, b, T, 2, 2, 1, "x", api.ErrSpan)
		wantNoPut(t, b, T, 0, 1, 0, "x", api.ErrHand)
		wantNoPut(t, b, T, 0, 1, 1, "", api.ErrWords)
	}
	for id := 1; id <= 256; id++ {
		mustPut(t, b, T, 0, 1, 1, "x", id)
	}
}

// TestNumbersAreGivenOnce: notes that come and go, one at a time, have rising numbers.
func TestNumbersAreGivenOnce(t *testing.T) {
	b, T := notes.New(), exampleText()
	for id := 1; id <= 256; id++ {
		mustPut(t, b, T, 0, 4, 1, "x", id)
		wantShut(t, b, id, api.OK)
		wantSweep(t, b, text(z()), 1)
		wantAll(t, b, T)
	}
	wantNoPut(t, b, T, 0, 4, 1, "x", api.ErrBoard)
}

// TestRefusedChangesNothing: all that can be seen of a board is as it was.
func TestRefusedChangesNothing(t *testing.T) {
	b, T := exampleBoard(t), exampleText()
	wantReply(t, b, 2, 7, "so", api.OK)
	wantShut(t, b, 1, api.OK)
	mustPut(t, b, text(z()), 0, 1, 1, "x", 3)
	wantShut(t, b, 3, api.OK)
	wantSweep(t, b, T, 1)
	was := sight(b, T, nil, text(y()))
	for k, call := range []func(){
		func() { wantNoPut(t, b, T, 4, 4, 1, "x", api.ErrSpan) },
		func() { wantNoPut(t, b, T, 0, 4, 65, "x", api.ErrHand) },
		func() { wantNoPut(t, b, T, 0, 4, 1, "x\x1f", api.ErrWords) },
		func() { wantReply(t, b, 3, 1, "x", api.ErrNote) },
		func() { wantReply(t, b, 2, 65, "x", api.ErrHand) },
		func() { wantReply(t, b, 2, 1, "", api.ErrWords) },
		func() { wantReply(t, b, 1, 1, "x", api.ErrShut) },
		func() { wantShut(t, b, 3, api.ErrNote) },
		func() { wantShut(t, b, 1, api.ErrShut) },
		func() { wantNoLook(t, b, T, 3) },
		func() { wantSweep(t, b, T, 0) },
	} {
		if call(); sight(b, T, nil, text(y())) != was {
			t.Fatalf("P23.2 to P23.7: call %d was refused, or had nothing to do, and changed the board", k)
		}
	}
	mustPut(t, b, T, 0, 1, 1, "x", 4)
}

// TestAskingChangesNothing: a board that is asked all the time, and one that is never, answer the same.
func TestAskingChangesNothing(t *testing.T) {
	asked, left, T := notes.New(), notes.New(), exampleText()
	ask := func() {
		for _, doc := range [][]api.Elem{T, nil, text(h(), o()), text(z(), y(), z())} {
			sight(asked, doc)
		}
	}
	for _, call := range []func(b *notes.Board) string{
		func(b *notes.Board) string { return fmt.Sprint(b.Put(T, 1, 3, 5, "why?")) },
		func(b *notes.Board) string { return fmt.Sprint(b.Put(T, 0, 4, 6, "all")) },
		func(b *notes.Board) string { return fmt.Sprint(b.Reply(1, 7, "so")) },
		func(b *notes.Board) string { return fmt.Sprint(b.Shut(1)) },
		func(b *notes.Board) string { return fmt.Sprint(b.Sweep(text(h(), o()))) },
		func(b *notes.Board) string { return fmt.Sprint(b.Put(T, 0, 1, 5, "new")) },
		func(b *notes.Board) string { return fmt.Sprint(b.Shut(3)) },
		func(b *notes.Board) string { return fmt.Sprint(b.Sweep(nil)) },
	} {
		ask()
		if x, y := call(asked), call(left); x != y {
			t.Fatalf("P23.9: the board that was asked answers %s, the other %s", x, y)
		}
	}
	if x, y := sight(asked, T, nil), sight(left, T, nil); x != y {
		t.Fatalf("P23.9: the board that was asked shows %s, the other %s", x, y)
	}
}

// roomy gives a text with spare room behind it, and all of that memory.
func roomy(doc ...api.Elem) (text, whole []api.Elem) {
	whole = append(slices.Clone(doc), el('!', 7, 7), el('?', 8, 8))
	return whole[:len(doc)], whole
}

// TestTextsAreNotChanged: no call writes into a text, nor into the room behind it.
func TestTextsAreNotChanged(t *testing.T) {
	doc, whole := roomy(exampleText()...)
	was := slices.Clone(whole)
	b := notes.New()
	mustPut(t, b, doc, 0, 2, 1, "x", 1)
	mustPut(t, b, doc, 2, 4, 1, "x", 2)
	wantReply(t, b, 1, 1, "y", api.OK)
	wantShut(t, b, 2, api.OK)
	b.Look(doc, 1)
	b.All(doc)
	b.At(doc, 1)
	b.Sweep(doc)
	b.Sweep(nil)
	if !slices.Equal(whole, was) {
		t.Fatalf("P23.9: a text was changed: %s", elemsWord(whole))
	}
}

// TestTextsAreNotKept: what becomes of a text behind a call moves no note.
func TestTextsAreNotKept(t *testing.T) {
	doc, whole := roomy(exampleText()...)
	b := notes.New()
	mustPut(t, b, doc, 1, 3, 5, "why?", 1)
	mustPut(t, b, doc, 1, 2, 5, "and", 2)
	wantLook(t, b, doc, api.Note{ID: 1, Client: 5, Words: "why?", From: 1, To: 3})
	wantAt(t, b, doc, 1, 1, 2)
	for k := range whole {
		whole[k] = z()
	}
	wantLook(t, b, whole, api.Note{ID: 1, Client: 5, Words: "why?", Gone: true})
	wantAt(t, b, whole, 1)
	wantAll(t, b, exampleText(), api.Note{ID: 1, Client: 5, Words: "why?", From: 1, To: 3}, api.Note{ID: 2, Client: 5, Words: "and", From: 1, To: 2})
}

// scribble writes over a list and into the room behind it.
func scribble[T any](list []T, x T) {
	list = list[:cap(list)]
	for k := range list {
		list[k] = x
	}
}

// TestAnswersAreNew: writing into what was answered, or behind it, changes no later answer.
func TestAnswersAreNew(t *testing.T) {
	b, T := exampleBoard(t), exampleText()
	for _, words := range []string{"a", "b", "c"} {
		wantReply(t, b, 1, 1, words, api.OK)
		wantReply(t, b, 2, 2, words, api.OK)
		was := sight(b, T, nil)
		no := api.Reply{Client: 9, Words: "no"}
		for range 2 {
			n, _ := b.Look(T, 1)
			scribble(n.Replies, no)
			for _, doc := range [][]api.Elem{T, nil} {
				all := b.All(doc)
				for _, n := range all {
					scribble(n.Replies, no)
				}
				scribble(all, api.Note{ID: 9})
			}
			scribble(b.At(T, 1), 9)
			if now := sight(b, T, nil); now != was {
				t.Fatalf("P23.9: an answer shares memory with the board: %s, was %s", now, was)
			}
		}
	}
}

// TestListsOfOneAnswerAreApart: the answers of one note are not in another's memory, nor in an earlier answer's.
func TestListsOfOneAnswerAreApart(t *testing.T) {
	b, T := exampleBoard(t), exampleText()
	for _, words := range []string{"a", "b", "c"} {
		wantReply(t, b, 1, 1, words, api.OK)
		wantReply(t, b, 2, 2, words, api.OK)
	}
	all, again := b.All(T), b.All(T)
	look, _ := b.Look(T, 1)
	scribble(all[0].Replies, api.Reply{Client: 9, Words: "no"})
	want := []api.Reply{{Client: 2, Words: "a"}, {Client: 2, Words: "b"}, {Client: 2, Words: "c"}}
	if !slices.Equal(all[1].Replies, want) || !slices.Equal(again[1].Replies, want) {
		t.Fatalf("P0.2: two lists of one answer share memory: %v", all[1].Replies)
	}
	want = []api.Reply{{Client: 1, Words: "a"}, {Client: 1, Words: "b"}, {Client: 1, Words: "c"}}
	if !slices.Equal(again[0].Replies, want) || !slices.Equal(look.Replies, want) {
		t.Fatalf("P0.2: two answers share memory: %v, %v", again[0].Replies, look.Replies)
	}
}

// TestAnswersStayAsTheyWere: what was answered does not change with the board.
func TestAnswersStayAsTheyWere(t *testing.T) {
	b, T := exampleBoard(t), exampleText()
	wantReply(t, b, 1, 1, "a", api.OK)
	look, _ := b.Look(T, 1)
	all := b.All(T)
	at := b.At(T, 1)
	for range 10 {
		wantReply(t, b, 1, 1, "more", api.OK)
	}
	wantShut(t, b, 1, api.OK)
	wantSweep(t, b, nil, 1)
	want := api.Note{ID: 1, Client: 5, Words: "why?", From: 1, To: 3, Replies: []api.Reply{{Client: 1, Words: "a"}}}
	if !alike(look, want) || !alike(all[0], want) || !slices.Equal(at, []int{1, 2}) {
		t.Fatalf("P23.9: earlier answers have changed: %+v, %+v, %v", look, all, at)
	}
}

// fullText gives a text of n elements, none of them twice.
func fullText(n int) []api.Elem {
	doc := make([]api.Elem, n)
	for k := range doc {
		doc[k] = el(byte('a'+k%26), 1+k%64, 1+k/64)
	}
	return doc
}

// TestGreatestBoards: 256 notes at the whole of a text of 4096 characters.
func TestGreatestBoards(t *testing.T) {
	b, doc := notes.New(), fullText(api.MaxDoc)
	for id := 1; id <= 256; id++ {
		mustPut(t, b, doc, 0, len(doc), 1, "x", id)
	}
	back := slices.Clone(doc)
	slices.Reverse(back)
	for _, c := range []struct {
		doc      []api.Elem
		from, to int
	}{
		{doc, 0, 4096}, {back, 0, 4096}, {append(text(z()), doc[4095]), 1, 2}, {fullText(1), 0, 1}, {text(el('A', 1, 1)), 0, 0},
	} {
		all := b.All(c.doc)
		if len(all) != 256 {
			t.Fatalf("P23.5: All tells %d notes, want 256", len(all))
		}
		for k, n := range all {
			if want := (api.Note{ID: k + 1, Client: 1, Words: "x", From: c.from, To: c.to, Gone: c.to == 0}); !alike(n, want) {
				t.Fatalf("P23.5: All(%s)[%d] = %+v, want %+v", elemsWord(c.doc), k, n, want)
			}
		}
		if n := len(b.At(c.doc, c.from)); n != 256 && c.to > 0 || n != 0 && c.to == 0 {
			t.Fatalf("P23.6: At(%s, %d) tells %d notes", elemsWord(c.doc), c.from, n)
		}
		wantAt(t, b, c.doc, c.to)
	}
	for id := 1; id <= 256; id++ {
		wantShut(t, b, id, api.OK)
	}
	wantSweep(t, b, doc[4095:], 0)
	wantSweep(t, b, nil, 256)
}

// TestLongTexts: a text far longer than any that the service has.
func TestLongTexts(t *testing.T) {
	b, doc := notes.New(), fullText(400000)
	mustPut(t, b, doc, 0, len(doc), 1, "all", 1)
	mustPut(t, b, doc, len(doc)-1, len(doc), 1, "last", 2)
	mustPut(t, b, doc, 10, 399990, 1, "midst", 3)
	wantAll(t, b, doc, api.Note{ID: 1, Client: 1, Words: "all", To: 400000}, api.Note{ID: 2, Client: 1, Words: "last", From: 399999, To: 400000}, api.Note{ID: 3, Client: 1, Words: "midst", From: 10, To: 399990})
	wantAt(t, b, doc, 9, 1)
	wantAt(t, b, doc, 399999, 1, 2)
	wantLook(t, b, doc[200000:], api.Note{ID: 3, Client: 1, Words: "midst", To: 199990})
	wantShut(t, b, 3, api.OK)
	wantSweep(t, b, doc[399989:], 0)
	wantSweep(t, b, doc[399990:], 1)
}

// TestManyAnswers: nothing bounds how many a note gets.
func TestManyAnswers(t *testing.T) {
	b, T := exampleBoard(t), exampleText()
	var want []api.Reply
	for k := range 20000 {
		x := api.Reply{Client: 1 + k%64, Words: strings.Repeat("w", 1+k%120)}
		wantReply(t, b, 1, x.Client, x.Words, api.OK)
		want = append(want, x)
	}
	wantLook(t, b, T, api.Note{ID: 1, Client: 5, Words: "why?", From: 1, To: 3, Replies: want})
}

// TestWildCalls: no call panics, whatever it is given.
func TestWildCalls(t *testing.T) {
	b, T := exampleBoard(t), exampleText()
	wild := []int{math.MinInt, math.MinInt + 1, -1, 0, 1, 4, 5, 64, 65, 256, 257, 1 << 31, 1 << 32, math.MaxInt - 1, math.MaxInt}
	for _, x := range wild {
		for _, y := range wild {
			if 0 <= x && x < y && y <= len(T) {
				continue
			}
			wantNoPut(t, b, T, x, y, 1, "x", api.ErrSpan)
			wantNoPut(t, b, nil, x, y, x, "", api.ErrSpan)
		}
		if x != 1 {
			wantReply(t, b, x, x, "\x00", api.ErrNote)
			wantShut(t, b, x, api.ErrNote)
			wantNoLook(t, b, nil, x)
		}
		wantAt(t, b, nil, x)
	}
}

// TestSideBySide: boards that are worked on at the same time, and one that many ask at once.
func TestSideBySide(t *testing.T) {
	shared, T := exampleBoard(t), exampleText()
	want := sight(shared, T, nil)
	var wg sync.WaitGroup
	for range 8 {
		wg.Go(func() {
			for range 20 {
				own, e := notes.New(), api.OK
				for range 50 {
					_, e = own.Put(T, 1, 3, 5, "x")
				}
				if n := len(own.All(T)); n != 50 || e != api.OK || own.Shut(50) != api.OK || own.Sweep(nil) != 1 {
					t.Errorf("P23.9: a board beside others has %d notes, the error %d", n, e)
				}
				if now := sight(shared, T, nil); now != want {
					t.Errorf("P23.9: a board that many ask answers %s, want %s", now, want)
				}
			}
		})
	}
	wg.Wait()
}
