package search

import (
	"math/rand/v2"
	"slices"
	"strings"
	"testing"

	"jotter/api"
)

// lengths gives how long the pieces are.
func lengths(p pieces) []int {
	var all []int
	for _, piece := range p {
		all = append(all, len(piece))
	}
	return all
}

// wantSound ends the test unless no piece is empty and none too long.
func wantSound(t *testing.T, p pieces) {
	t.Helper()
	for _, n := range lengths(p) {
		if n < 1 || n > mostPiece {
			t.Fatalf("the pieces' lengths are %v: want each from 1 to %d", lengths(p), mostPiece)
		}
	}
}

// TestPiecesStaySound: however often a text is filled and emptied, none of its pieces is empty, and none grows beyond its length: so neither an operation nor a search costs more the longer the text was worked on.
func TestPiecesStaySound(t *testing.T) {
	r := rand.New(rand.NewPCG(1, 24))
	x := New(nil)
	for round := range 20 {
		for x.size < 900 {
			x.Apply(api.Op{Kind: api.Insert, Pos: r.IntN(x.size + 1), Ch: 'a', Client: 1, Seq: 1})
			wantSound(t, x.text)
		}
		for x.size > round%3*50 {
			x.Apply(api.Op{Kind: api.Delete, Pos: r.IntN(x.size), Client: 1, Seq: 1})
			wantSound(t, x.text)
		}
	}
}

// TestNoneGrowsIntoItsNeighbour: what is appended to a piece, or to one that was given on, shows in no other.
func TestNoneGrowsIntoItsNeighbour(t *testing.T) {
	x := New(make([]api.Elem, 300))
	for i := range 600 {
		x.Apply(api.Op{Kind: api.Insert, Pos: i * 31 % (x.size + 1), Ch: byte('a' + i%26), Client: 1, Seq: 1})
	}
	for i := range 100 {
		x.Apply(api.Op{Kind: api.Delete, Pos: i * 17 % x.size, Client: 1, Seq: 1})
	}
	if len(x.text) < 4 {
		t.Fatalf("the pieces' lengths are %v: too few to tell", lengths(x.text))
	}
	want := x.Text()
	more := []byte(strings.Repeat("?", 2*mostPiece))
	for k, piece := range x.text {
		for n := range len(more) {
			_ = append(piece, more[:n]...)
		}
		if x.Text() != want {
			t.Fatalf("piece %d of the lengths %v grew into its neighbour", k, lengths(x.text))
		}
	}
	for pos, piece := range x.text.from(5) {
		if cap(piece) != len(piece) {
			t.Fatalf("the piece from %d on is given on with room behind it", pos)
		}
		if !strings.HasPrefix(want[pos:], string(piece)) {
			t.Fatalf("the piece from %d on is %q", pos, piece)
		}
	}
}

// TestFrom: the pieces from a place on, put together, are the text from there on.
func TestFrom(t *testing.T) {
	text := strings.Repeat("abcdefg", 60)
	var elems []api.Elem
	for i := range len(text) {
		elems = append(elems, api.Elem{Ch: text[i]})
	}
	p := lay(elems)
	for pos := -2; pos <= len(text)+2; pos++ {
		var got []byte
		for begin, piece := range p.from(pos) {
			if begin != max(pos, 0)+len(got) {
				t.Fatalf("from(%d): a piece begins at %d, want %d", pos, begin, max(pos, 0)+len(got))
			}
			got = append(got, piece...)
		}
		if want := text[min(max(pos, 0), len(text)):]; !slices.Equal(got, []byte(want)) {
			t.Fatalf("from(%d) = %q, want %q", pos, got, want)
		}
	}
}
