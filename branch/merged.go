package branch

import (
	"slices"

	"jotter/api"
)

// letter is a character of a merged text, with its place in the head's text, or own. It is no element: those that the branch puts in have no edit yet that would tell them from the head's.
type letter struct {
	ch byte
	at int
}

// own stands for a place: the branch put the character in.
const own = -1

// merged gives the head's text with the line applied.
func (b brought) merged() []letter {
	text := make([]letter, len(b.head))
	for at := range text {
		text[at] = letter{b.head[at], at}
	}
	for _, op := range b.line {
		switch op.Kind {
		case api.Insert:
			text = slices.Insert(text, op.Pos, letter{op.Ch, own})
		case api.Delete:
			text = slices.Delete(text, op.Pos, op.Pos+1)
		}
	}
	return text
}

// newcomers gives what tells whether a record behind the base inserted a character. It asks what came meanwhile, where each of those is inserted at its place in the head's text: Born would sort the whole past anew for each.
func (b brought) newcomers() func(letter) bool {
	return func(x letter) bool {
		return slices.ContainsFunc(b.came, func(op api.Op) bool {
			return op.Kind == api.Insert && op.Pos == x.at
		})
	}
}

// ownRuns gives the runs of the branch's own characters, as long as they can be, from the left.
func ownRuns(text []letter) []api.Run {
	var runs []api.Run
	for at, x := range text {
		switch {
		case x.at != own:
		case at > 0 && text[at-1].at == own:
			runs[len(runs)-1].To = at + 1
		default:
			runs = append(runs, api.Run{From: at, To: at + 1})
		}
	}
	return runs
}

// characters gives the characters alone.
func characters(text []letter) string {
	list := make([]byte, len(text))
	for i, x := range text {
		list[i] = x.ch
	}
	return string(list)
}
