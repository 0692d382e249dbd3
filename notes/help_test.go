package notes_test

import (
	"fmt"
	"math/rand/v2"
	"slices"
	"strconv"
	"testing"

	"jotter/api"
	"jotter/notes"
)

func el(ch byte, client, seq int) api.Elem { return api.Elem{Ch: ch, Client: client, Seq: seq} }

// The elements of the chapter's examples. (They are functions' answers, so that no test can change them for another.)
func h() api.Elem { return el('h', 1, 1) }
func i() api.Elem { return el('i', 1, 2) }
func y() api.Elem { return el('y', 2, 1) }
func o() api.Elem { return el('o', 2, 2) }
func z() api.Elem { return el('z', 3, 1) }

func text(elems ...api.Elem) []api.Elem { return elems }

// exampleText is the chapter's T.
func exampleText() []api.Elem { return text(h(), i(), y(), o()) }

// exampleBoard is the board behind the chapter's first example.
func exampleBoard(t *testing.T) *notes.Board {
	t.Helper()
	b := notes.New()
	mustPut(t, b, exampleText(), 1, 3, 5, "why?", 1)
	mustPut(t, b, exampleText(), 0, 4, 6, "all", 2)
	return b
}

// dice gives numbers that look mixed, the same at every run.
func dice(seed int) *rand.Rand { return rand.New(rand.NewPCG(uint64(seed), 23)) }

// quote tells words, and keeps what a failed test tells readable.
func quote(s string) string {
	if len(s) > 40 {
		return strconv.Quote(s[:40]) + ".. (" + strconv.Itoa(len(s)) + ")"
	}
	return strconv.Quote(s)
}

// elemsWord gives a text as the chapter writes it.
func elemsWord(doc []api.Elem) string {
	if len(doc) > 20 {
		return elemsWord(doc[:20]) + ".. (" + strconv.Itoa(len(doc)) + ")"
	}
	word := "["
	for _, x := range doc {
		word += fmt.Sprintf(" %c(%d,%d)", x.Ch, x.Client, x.Seq)
	}
	return word + " ]"
}

// alike tells whether two notes are the same; a nil list is an empty one.
func alike(a, b api.Note) bool {
	return a.ID == b.ID && a.Client == b.Client && a.Words == b.Words && a.From == b.From && a.To == b.To &&
		a.Gone == b.Gone && a.Shut == b.Shut && slices.Equal(a.Replies, b.Replies)
}

// mustPut ends the test unless Put takes the note and gives it that number.
func mustPut(t *testing.T, b *notes.Board, doc []api.Elem, from, to, client int, words string, want int) {
	t.Helper()
	if id, e := b.Put(doc, from, to, client, words); id != want || e != api.OK {
		t.Fatalf("P23.2: Put(%s, %d, %d, %d, %s) = %d, %d, want %d, 0", elemsWord(doc), from, to, client, quote(words), id, e, want)
	}
}

// wantNoPut ends the test unless Put refuses with that error.
func wantNoPut(t *testing.T, b *notes.Board, doc []api.Elem, from, to, client int, words string, want api.Errno) {
	t.Helper()
	if id, e := b.Put(doc, from, to, client, words); id != 0 || e != want {
		t.Fatalf("P23.2: Put(%s, %d, %d, %d, %s) = %d, %d, want 0, %d", elemsWord(doc), from, to, client, quote(words), id, e, want)
	}
}

func wantReply(t *testing.T, b *notes.Board, id, client int, words string, want api.Errno) {
	t.Helper()
	if e := b.Reply(id, client, words); e != want {
		t.Fatalf("P23.3: Reply(%d, %d, %s) = %d, want %d", id, client, quote(words), e, want)
	}
}

func wantShut(t *testing.T, b *notes.Board, id int, want api.Errno) {
	t.Helper()
	if e := b.Shut(id); e != want {
		t.Fatalf("P23.4: Shut(%d) = %d, want %d", id, e, want)
	}
}

func wantLook(t *testing.T, b *notes.Board, doc []api.Elem, want api.Note) {
	t.Helper()
	if n, e := b.Look(doc, want.ID); !alike(n, want) || e != api.OK {
		t.Fatalf("P23.5: Look(%s, %d) = %+v, %d, want %+v", elemsWord(doc), want.ID, n, e, want)
	}
}

func wantNoLook(t *testing.T, b *notes.Board, doc []api.Elem, id int) {
	t.Helper()
	if n, e := b.Look(doc, id); !alike(n, api.Note{}) || e != api.ErrNote {
		t.Fatalf("P23.5: Look(%s, %d) = %+v, %d, want the zero note, %d", elemsWord(doc), id, n, e, api.ErrNote)
	}
}

func wantAll(t *testing.T, b *notes.Board, doc []api.Elem, want ...api.Note) {
	t.Helper()
	if all := b.All(doc); !slices.EqualFunc(all, want, alike) {
		t.Fatalf("P23.5: All(%s) = %+v, want %+v", elemsWord(doc), all, want)
	}
}

func wantAt(t *testing.T, b *notes.Board, doc []api.Elem, pos int, want ...int) {
	t.Helper()
	if ids := b.At(doc, pos); !slices.Equal(ids, want) {
		t.Fatalf("P23.6: At(%s, %d) = %v, want %v", elemsWord(doc), pos, ids, want)
	}
}

func wantSweep(t *testing.T, b *notes.Board, doc []api.Elem, want int) {
	t.Helper()
	if n := b.Sweep(doc); n != want {
		t.Fatalf("P23.7: Sweep(%s) = %d, want %d", elemsWord(doc), n, want)
	}
}

// sight tells all that can be seen of a board in some texts.
func sight(b *notes.Board, docs ...[]api.Elem) string {
	var word string
	for _, doc := range docs {
		all := b.All(doc)
		word += fmt.Sprintf("%s: %+v\n", elemsWord(doc), all)
		for pos := -1; pos <= len(doc); pos++ {
			word += fmt.Sprint(b.At(doc, pos))
		}
		for id := range api.MaxNotes + 2 {
			n, e := b.Look(doc, id)
			if e == api.OK {
				word += fmt.Sprintf(" %+v", n)
			}
		}
	}
	return word
}
