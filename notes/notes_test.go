package notes_test

import (
	"math"
	"slices"
	"strings"
	"testing"

	"jotter/api"
	"jotter/notes"
)

// TestExampleNotes: the chapter's first and third examples.
func TestExampleNotes(t *testing.T) {
	b := notes.New()
	why := api.Note{ID: 1, Client: 5, Words: "why?", From: 1, To: 3}
	mustPut(t, b, exampleText(), 1, 3, 5, "why?", 1)
	wantLook(t, b, exampleText(), why)
	mustPut(t, b, exampleText(), 0, 4, 6, "all", 2)
	for _, c := range []struct {
		doc      []api.Elem
		from, to int
	}{
		{exampleText(), 1, 3},
		{text(h(), i(), z(), y(), o()), 1, 4},
		{text(z(), y()), 1, 2},
		{text(h(), o()), 0, 0},
		{text(y(), i()), 0, 2},
		{text(el('I', 1, 2), y()), 1, 2},
	} {
		why.From, why.To, why.Gone = c.from, c.to, c.to == 0
		wantLook(t, b, c.doc, why)
	}
}

// TestExampleRefusals: the chapter's second example.
func TestExampleRefusals(t *testing.T) {
	b, T := exampleBoard(t), exampleText()
	wantNoPut(t, b, T, 2, 2, 5, "x", api.ErrSpan)
	wantNoPut(t, b, T, 3, 2, 5, "x", api.ErrSpan)
	wantNoPut(t, b, T, -1, 2, 5, "x", api.ErrSpan)
	wantNoPut(t, b, T, 0, 5, 5, "x", api.ErrSpan)
	wantNoPut(t, b, nil, 0, 1, 5, "x", api.ErrSpan)
	wantNoPut(t, b, T, 0, 1, 0, "", api.ErrHand)
	wantNoPut(t, b, T, 0, 1, 65, "", api.ErrHand)
	wantNoPut(t, b, T, 0, 1, 5, "", api.ErrWords)
	wantNoPut(t, b, T, 0, 1, 5, strings.Repeat("w", 121), api.ErrWords)
	wantNoPut(t, b, T, 0, 1, 5, "a\n", api.ErrWords)
	mustPut(t, b, T, 0, 1, 5, "x", 3)
}

// TestExampleTalk: the chapter's fourth and fifth examples.
func TestExampleTalk(t *testing.T) {
	b, T := exampleBoard(t), exampleText()
	wantAt(t, b, T, 1, 1, 2)
	wantAt(t, b, T, 0, 2)
	wantAt(t, b, T, 4)
	wantAt(t, b, T, -1)
	wantShut(t, b, 1, api.OK)
	wantAt(t, b, T, 1, 2)
	wantShut(t, b, 1, api.ErrShut)
	wantReply(t, b, 1, 7, "so", api.ErrShut)
	wantReply(t, b, 2, 7, "so", api.OK)
	wantReply(t, b, 2, 7, "", api.ErrWords)
	wantReply(t, b, 3, 0, "", api.ErrNote)
	wantReply(t, b, 1, 0, "", api.ErrHand)

	wantSweep(t, b, T, 0)
	wantSweep(t, b, text(h(), o()), 1)
	wantNoLook(t, b, T, 1)
	wantAll(t, b, T, api.Note{ID: 2, Client: 6, Words: "all", To: 4, Replies: []api.Reply{{Client: 7, Words: "so"}}})
	mustPut(t, b, T, 0, 1, 5, "new", 3)
	wantSweep(t, b, nil, 0)
}

// TestNewBoard: nothing is on it, and no number is given.
func TestNewBoard(t *testing.T) {
	b := notes.New()
	if b == nil {
		t.Fatal("P23.1: New gives no board")
	}
	for _, doc := range [][]api.Elem{nil, {}, exampleText()} {
		wantAll(t, b, doc)
		wantSweep(t, b, doc, 0)
		for pos := -1; pos <= 5; pos++ {
			wantAt(t, b, doc, pos)
		}
		for _, id := range []int{0, 1, -1} {
			wantNoLook(t, b, doc, id)
		}
	}
	wantReply(t, b, 1, 1, "x", api.ErrNote)
	wantShut(t, b, 1, api.ErrNote)
	mustPut(t, b, exampleText(), 0, 1, 1, "x", 1)
}

// TestBoardsShareNothing: what one board is told another one does not know.
func TestBoardsShareNothing(t *testing.T) {
	a, b, T := notes.New(), notes.New(), exampleText()
	mustPut(t, a, T, 0, 2, 1, "a's", 1)
	mustPut(t, a, T, 0, 2, 1, "a's", 2)
	wantAll(t, b, T)
	wantShut(t, b, 1, api.ErrNote)
	mustPut(t, b, T, 1, 3, 2, "b's", 1)
	wantShut(t, b, 1, api.OK)
	wantReply(t, a, 1, 3, "still open", api.OK)
	wantSweep(t, b, nil, 1)
	wantLook(t, a, T, api.Note{ID: 1, Client: 1, Words: "a's", To: 2, Replies: []api.Reply{{Client: 3, Words: "still open"}}})
	mustPut(t, a, T, 0, 1, 1, "a's", 3)
	mustPut(t, b, T, 0, 1, 1, "b's", 2)
}

// TestSpans: every range of a text, and of those beside it.
func TestSpans(t *testing.T) {
	for n := range 6 {
		doc := append(exampleText(), z())[:n]
		for from := -2; from <= n+2; from++ {
			for to := -2; to <= n+2; to++ {
				b := notes.New()
				if 0 <= from && from < to && to <= n {
					mustPut(t, b, doc, from, to, 1, "x", 1)
					wantLook(t, b, doc, api.Note{ID: 1, Client: 1, Words: "x", From: from, To: to})
				} else {
					wantNoPut(t, b, doc, from, to, 1, "x", api.ErrSpan)
					wantAll(t, b, doc)
				}
			}
		}
	}
}

// TestWildSpans: numbers at the ends of int.
func TestWildSpans(t *testing.T) {
	b, T := notes.New(), exampleText()
	for _, c := range [][2]int{
		{math.MinInt, math.MaxInt}, {math.MaxInt, math.MinInt}, {math.MinInt, math.MinInt}, {math.MaxInt, math.MaxInt},
		{0, math.MaxInt}, {math.MinInt, 4}, {0, math.MinInt}, {math.MaxInt, 4}, {1 << 32, 1<<32 + 2}, {1<<32 + 1, 3}, {0, 1<<32 + 1},
	} {
		wantNoPut(t, b, T, c[0], c[1], 1, "x", api.ErrSpan)
	}
	mustPut(t, b, T, 0, 4, 1, "x", 1)
}

// TestSpareRoomIsNoText: what lies behind a text in its memory is not in it.
func TestSpareRoomIsNoText(t *testing.T) {
	b, doc := notes.New(), exampleText()[:2]
	wantNoPut(t, b, doc, 0, 3, 1, "x", api.ErrSpan)
	wantNoPut(t, b, doc, 2, 4, 1, "x", api.ErrSpan)
	mustPut(t, b, exampleText(), 1, 4, 1, "x", 1)
	wantLook(t, b, doc, api.Note{ID: 1, Client: 1, Words: "x", From: 1, To: 2})
	wantShut(t, b, 1, api.OK)
	wantSweep(t, b, exampleText()[:1], 1)
}

// TestHands: clients are 1 to 64, for a note and for an answer.
func TestHands(t *testing.T) {
	b, T := notes.New(), exampleText()
	for _, client := range []int{0, -1, 65, 66, 1 << 32, 1<<32 + 1, math.MinInt, math.MaxInt} {
		wantNoPut(t, b, T, 0, 1, client, "x", api.ErrHand)
	}
	for client := 1; client <= 64; client++ {
		mustPut(t, b, T, 0, 1, client, "x", client)
		wantReply(t, b, client, 65-client, "y", api.OK)
		wantLook(t, b, T, api.Note{ID: client, Client: client, Words: "x", To: 1, Replies: []api.Reply{{Client: 65 - client, Words: "y"}}})
	}
	for _, client := range []int{0, -1, 65, 66, 1 << 32, 1<<32 + 1, math.MinInt, math.MaxInt} {
		wantReply(t, b, 1, client, "x", api.ErrHand)
	}
}

// wordsThatMayNotBe: too few, too many, and such with a byte outside 32 to 126 at their beginning, in their midst, at their end.
func wordsThatMayNotBe() []string {
	all := []string{"", strings.Repeat("w", 121), strings.Repeat("w", 1<<16), strings.Repeat("é", 60), strings.Repeat("é", 100), "\xff"}
	for c := range 256 {
		if c < 32 || c > 126 {
			x := string([]byte{byte(c)})
			all = append(all, x, x+"ab", "a"+x+"b", "ab"+x, strings.Repeat("w", 119)+x)
		}
	}
	return all
}

// wordsThatMayBe: every character by itself and all lengths.
func wordsThatMayBe() []string {
	var all []string
	for c := 32; c <= 126; c++ {
		all = append(all, string(rune(c)))
	}
	for n := 1; n <= 120; n++ {
		all = append(all, strings.Repeat("w", n))
	}
	return all
}

// TestWords: which words may be, in a note and in an answer.
func TestWords(t *testing.T) {
	b, T := notes.New(), exampleText()
	for _, words := range wordsThatMayNotBe() {
		wantNoPut(t, b, T, 0, 1, 1, words, api.ErrWords)
	}
	var replies []api.Reply
	for k, words := range wordsThatMayBe() {
		mustPut(t, b, T, 0, 1, 1, words, k+1)
		wantLook(t, b, T, api.Note{ID: k + 1, Client: 1, Words: words, To: 1, Replies: nil})
	}
	for _, words := range wordsThatMayNotBe() {
		wantReply(t, b, 1, 1, words, api.ErrWords)
	}
	for _, words := range wordsThatMayBe() {
		wantReply(t, b, 1, 2, words, api.OK)
		replies = append(replies, api.Reply{Client: 2, Words: words})
	}
	wantLook(t, b, T, api.Note{ID: 1, Client: 1, Words: " ", To: 1, Replies: replies})
}

// TestWhichErrorOfPut: where several apply, the one that is named first.
func TestWhichErrorOfPut(t *testing.T) {
	open, full, T := notes.New(), notes.New(), exampleText()
	for id := 1; id <= api.MaxNotes; id++ {
		mustPut(t, full, T, 0, 1, 1, "x", id)
	}
	for bits := range 8 {
		to, client, words, want := 1, 1, "x", api.OK
		if bits&4 != 0 {
			words, want = "\n", api.ErrWords
		}
		if bits&2 != 0 {
			client, want = 65, api.ErrHand
		}
		if bits&1 != 0 {
			to, want = 0, api.ErrSpan
		}
		if want == api.OK {
			mustPut(t, open, T, 0, to, client, words, 1)
			wantNoPut(t, full, T, 0, to, client, words, api.ErrBoard)
		} else {
			wantNoPut(t, open, T, 0, to, client, words, want)
			wantNoPut(t, full, T, 0, to, client, words, want)
		}
	}
}

// TestWhichErrorOfReply: no such note, then no such client, then the words, then that it is shut.
func TestWhichErrorOfReply(t *testing.T) {
	b, T := notes.New(), exampleText()
	for id := 1; id <= 3; id++ {
		mustPut(t, b, T, 0, 1, 1, "x", id)
	}
	wantShut(t, b, 1, api.OK)
	wantSweep(t, b, nil, 1)
	wantShut(t, b, 2, api.OK)
	for _, c := range []struct {
		id, client int
		words      string
		want       api.Errno
	}{
		{1, 1, "y", api.ErrNote}, {1, 0, "y", api.ErrNote}, {1, 1, "", api.ErrNote}, {1, 0, "", api.ErrNote},
		{4, 1, "y", api.ErrNote}, {4, 0, "y", api.ErrNote}, {4, 1, "", api.ErrNote}, {4, 0, "", api.ErrNote},
		{2, 1, "y", api.ErrShut}, {2, 0, "y", api.ErrHand}, {2, 1, "", api.ErrWords}, {2, 0, "", api.ErrHand},
		{3, 1, "y", api.OK}, {3, 0, "y", api.ErrHand}, {3, 1, "", api.ErrWords}, {3, 0, "", api.ErrHand},
	} {
		wantReply(t, b, c.id, c.client, c.words, c.want)
	}
	wantAll(t, b, T, api.Note{ID: 2, Client: 1, Words: "x", To: 1, Shut: true},
		api.Note{ID: 3, Client: 1, Words: "x", To: 1, Replies: []api.Reply{{Client: 1, Words: "y"}}})
}

// TestNoSuchNote: numbers that were never given, or whose notes were swept.
func TestNoSuchNote(t *testing.T) {
	b, T := exampleBoard(t), exampleText()
	wantShut(t, b, 1, api.OK)
	wantSweep(t, b, nil, 1)
	for _, id := range []int{1, 0, -1, -2, 3, 256, 257, 1<<32 + 2, math.MinInt, math.MaxInt} {
		wantReply(t, b, id, 1, "x", api.ErrNote)
		wantShut(t, b, id, api.ErrNote)
		wantNoLook(t, b, T, id)
	}
}

// TestReplies: answers stand in the order in which they came, the same words twice too, each at its own note.
func TestReplies(t *testing.T) {
	b, T := exampleBoard(t), exampleText()
	want := map[int][]api.Reply{}
	for k, words := range []string{"b", "a", "b", "b", "c", "a"} {
		for id := 1; id <= 2; id++ {
			client := 1 + (k+id)%3
			wantReply(t, b, id, client, words, api.OK)
			want[id] = append(want[id], api.Reply{Client: client, Words: words})
		}
	}
	wantAll(t, b, T, api.Note{ID: 1, Client: 5, Words: "why?", From: 1, To: 3, Replies: want[1]},
		api.Note{ID: 2, Client: 6, Words: "all", To: 4, Replies: want[2]})
	wantShut(t, b, 1, api.OK)
	wantLook(t, b, nil, api.Note{ID: 1, Client: 5, Words: "why?", Gone: true, Shut: true, Replies: want[1]})
}

// TestShutForGood: nothing opens a note again, and whether it is open hangs on no text.
func TestShutForGood(t *testing.T) {
	b, T := exampleBoard(t), exampleText()
	wantShut(t, b, 1, api.OK)
	for range 3 {
		wantShut(t, b, 1, api.ErrShut)
		wantReply(t, b, 1, 1, "x", api.ErrShut)
		wantSweep(t, b, text(y()), 0)
		wantAll(t, b, T, api.Note{ID: 1, Client: 5, Words: "why?", From: 1, To: 3, Shut: true}, api.Note{ID: 2, Client: 6, Words: "all", To: 4})
	}
	wantShut(t, b, 2, api.OK)
	wantAt(t, b, T, 1)
}

// TestGoneMayComeBack: a note that is gone in one text stands in another.
func TestGoneMayComeBack(t *testing.T) {
	b, T := exampleBoard(t), exampleText()
	gone := api.Note{ID: 1, Client: 5, Words: "why?", Gone: true}
	wantLook(t, b, nil, gone)
	wantLook(t, b, text(h(), h(), z()), gone)
	wantReply(t, b, 1, 1, "x", api.OK)
	wantLook(t, b, T, api.Note{ID: 1, Client: 5, Words: "why?", From: 1, To: 3, Replies: []api.Reply{{Client: 1, Words: "x"}}})
}

// TestAt: both ends of a note's range, what stands in its midst, and those that are gone.
func TestAt(t *testing.T) {
	b, T := notes.New(), exampleText()
	mustPut(t, b, T, 0, 2, 1, "hi", 1)
	mustPut(t, b, T, 1, 3, 1, "iy", 2)
	mustPut(t, b, T, 3, 4, 1, "o", 3)
	for pos, want := range [][]int{{1}, {1, 2}, {2}, {3}, {}} {
		wantAt(t, b, T, pos, want...)
	}
	// z stands in the midst of hi, and is none of its characters.
	for pos, want := range [][]int{{1}, {1}, {1, 2}, {}, {}} {
		wantAt(t, b, text(h(), z(), i(), z()), pos, want...)
	}
	for _, pos := range []int{-1, -2, 4, 5, math.MinInt, math.MaxInt, 1 << 32, 1<<32 + 1} {
		wantAt(t, b, T, pos)
	}
	for pos := -1; pos < 3; pos++ {
		wantAt(t, b, nil, pos)
		wantAt(t, b, text(z(), z()), pos)
	}
}

// TestSweepTakesShutAndGone: of four notes the one that is both.
func TestSweepTakesShutAndGone(t *testing.T) {
	b, T := notes.New(), exampleText()
	for id := 1; id <= 4; id++ {
		at := (id - 1) / 2 // 1 and 2 at h, 3 and 4 at i
		mustPut(t, b, T, at, at+1, id, "x", id)
	}
	wantShut(t, b, 1, api.OK)
	wantShut(t, b, 3, api.OK)
	left := text(i(), y())
	wantSweep(t, b, left, 1)
	wantNoLook(t, b, T, 1)
	wantAll(t, b, left, api.Note{ID: 2, Client: 2, Words: "x", Gone: true}, api.Note{ID: 3, Client: 3, Words: "x", To: 1, Shut: true}, api.Note{ID: 4, Client: 4, Words: "x", To: 1})
	wantSweep(t, b, left, 0)
	wantSweep(t, b, nil, 1)
	wantShut(t, b, 2, api.OK)
	wantShut(t, b, 4, api.OK)
	wantSweep(t, b, text(el('H', 1, 1), el('h', 1, 2), el('h', 2, 1)), 2)
	wantAll(t, b, T)
	mustPut(t, b, T, 0, 1, 1, "x", 5)
}

// TestElementsAreComparedWhole: another character, another client, another number: another element.
func TestElementsAreComparedWhole(t *testing.T) {
	for _, c := range []struct{ own, other api.Elem }{
		{el('a', 1, 1), el('b', 1, 1)}, {el('a', 1, 1), el('a', 2, 1)}, {el('a', 1, 1), el('a', 1, 2)}, {el('a', 1, 2), el('a', 2, 1)},
		{el(0, 0, 0), el(1, 0, 0)}, {el(0, -1, 0), el(0, 0, -1)}, {el('a', 1<<32, 1), el('a', 0, 1)}, {el('a', 1, math.MaxInt), el('a', 1, math.MinInt)},
	} {
		b := notes.New()
		mustPut(t, b, text(c.other, c.own), 1, 2, 1, "x", 1)
		wantLook(t, b, text(c.other, c.other), api.Note{ID: 1, Client: 1, Words: "x", Gone: true})
		wantLook(t, b, text(c.other, c.own, c.other), api.Note{ID: 1, Client: 1, Words: "x", From: 1, To: 2})
		wantAt(t, b, text(c.other, c.own, c.other), 1, 1)
		wantShut(t, b, 1, api.OK)
		wantSweep(t, b, text(c.own), 0)
		wantSweep(t, b, text(c.other), 1)
	}
}

// TestTwiceInAText: elements that stand more than once, in the text of the Put and in the one that is asked about.
func TestTwiceInAText(t *testing.T) {
	b := notes.New()
	mustPut(t, b, text(h(), i(), h(), y()), 0, 2, 1, "x", 1)
	// Its elements are h and i: in its own text h stands behind i too.
	wantLook(t, b, text(h(), i(), h(), y()), api.Note{ID: 1, Client: 1, Words: "x", To: 3})
	wantLook(t, b, text(y(), i(), i(), y(), h(), y(), h()), api.Note{ID: 1, Client: 1, Words: "x", From: 1, To: 7})
	mustPut(t, b, text(z(), z(), z()), 1, 2, 1, "x", 2)
	wantLook(t, b, text(z(), z(), z()), api.Note{ID: 2, Client: 1, Words: "x", To: 3})
	wantAt(t, b, text(z(), y(), z(), h()), 1, 2)
}

// TestRising: many notes, of which some are swept, told by their numbers however often one asks.
func TestRising(t *testing.T) {
	b, T := notes.New(), exampleText()
	var left []int
	for id := 1; id <= 200; id++ {
		mustPut(t, b, T, id%2, 3, 1, "x", id)
		if id%3 == 0 {
			wantShut(t, b, id, api.OK)
		} else {
			left = append(left, id)
		}
	}
	wantSweep(t, b, nil, 66)
	for range 20 {
		wantAt(t, b, T, 2, left...)
		var ids []int
		for _, n := range b.All(T) {
			ids = append(ids, n.ID)
		}
		if !slices.Equal(ids, left) {
			t.Fatalf("P23.5: All tells the notes %v, want %v", ids, left)
		}
	}
}
