package notes

import (
	"slices"

	"jotter/api"
)

// note is one note of a board. From, To and Gone of its Note are never set: they hang on the text that is asked about.
type note struct {
	api.Note
	elems []api.Elem
}

// span is a range of places, from up to to - 1.
type span struct{ from, to int }

func (s span) empty() bool { return s.from == s.to }

// spots is the range in which each element of a text stands: a range of one place, unless it stands there more than once.
type spots map[api.Elem]span

// spotsOf goes through a text once for all notes, because each may have as many elements as the text.
func spotsOf(doc []api.Elem) spots {
	at := make(spots, len(doc))
	for i, x := range doc {
		s, seen := at[x]
		if !seen {
			s.from = i
		}
		s.to = i + 1
		at[x] = s
	}
	return at
}

// reach gives the least range that holds all places at which the note's elements stand; an empty one, from 0, if there is none.
func (n *note) reach(at spots) span {
	var all span
	for _, x := range n.elems {
		s, here := at[x]
		switch {
		case !here:
		case all.empty():
			all = s
		default:
			all = span{min(all.from, s.from), max(all.to, s.to)}
		}
	}
	return all
}

// in gives the note as it stands in a text.
func (n *note) in(at spots) api.Note {
	s, told := n.reach(at), n.Note
	told.From, told.To, told.Gone = s.from, s.to, s.empty()
	told.Replies = slices.Clone(n.Replies)
	return told
}

// maySay tells whether that client may say those words, in a note or in an answer.
func maySay(client int, words string) api.Errno {
	if client < 1 || client > api.MaxClients {
		return api.ErrHand
	}
	if len(words) < 1 || len(words) > api.MaxWords {
		return api.ErrWords
	}
	for i := range len(words) {
		if words[i] < api.LeastCh || words[i] > api.MostCh {
			return api.ErrWords
		}
	}
	return api.OK
}

// ownCopy gives the same words in memory of their own: kept as they came they would keep all of the text alive that they were cut from.
func ownCopy(words string) string { return string([]byte(words)) }
