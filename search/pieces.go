package search

import (
	"iter"
	"slices"

	"jotter/api"
	"jotter/doc"
)

// mostPiece is how long a piece may grow: short enough that an operation moves few characters, long enough that a full text has few pieces.
const mostPiece = 128

// pieces are a text, cut: none is empty, so that there are never more of them than characters. Several may lie in one array beside one another; each ends where its own room ends, so that none grows into its neighbour.
type pieces [][]byte

// lay cuts a copy of a text's characters into pieces.
func lay(elems []api.Elem) pieces {
	var p pieces
	all := []byte(doc.Text(elems))
	for from := 0; from < len(all); from += mostPiece {
		to := min(from+mostPiece, len(all))
		p = append(p, all[from:to:to])
	}
	return p
}

// from gives the pieces from a place on, the first of them without what lies ahead of it, each with the place of its first character.
func (p pieces) from(pos int) iter.Seq2[int, []byte] {
	return func(yield func(int, []byte) bool) {
		begin := 0
		for _, piece := range p {
			skip := max(begin, pos) - begin
			if skip < len(piece) && !yield(begin+skip, piece[skip:len(piece):len(piece)]) {
				return
			}
			begin += len(piece)
		}
	}
}

// put inserts a character at a place of the text, or at its end.
func (p *pieces) put(pos int, ch byte) {
	if len(*p) == 0 {
		*p = pieces{{ch}}
		return
	}
	k := 0
	for pos > len((*p)[k]) {
		pos -= len((*p)[k])
		k++
	}
	grown := slices.Insert((*p)[k], pos, ch)
	if len(grown) <= mostPiece {
		(*p)[k] = grown
		return
	}
	half := len(grown) / 2
	*p = slices.Replace(*p, k, k+1, grown[:half:half], grown[half:len(grown):len(grown)])
}

// take takes out the character at a place of the text.
func (p *pieces) take(pos int) {
	k := 0
	for pos >= len((*p)[k]) {
		pos -= len((*p)[k])
		k++
	}
	(*p)[k] = slices.Delete((*p)[k], pos, pos+1)
	if len((*p)[k]) == 0 {
		*p = slices.Delete(*p, k, k+1)
	}
}
