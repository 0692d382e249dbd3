package revision

import (
	"cmp"
	"slices"

	"jotter/api"
	"jotter/book"
)

// Past is a log that was read.
type Past struct {
	done []api.Op         // the records, in their order
	born map[api.Elem]int // which record inserted an element
	died map[api.Elem]int // which record took it away
	// place tells where an element stands in one line of all that there ever were. Two elements never change their order, so the line, less those that are not there, is the text of any revision.
	place map[api.Elem]int
}

// pastOf reads a book from its first record on.
func pastOf(log *book.Book) *Past {
	p := &Past{born: map[api.Elem]int{}, died: map[api.Elem]int{}, place: map[api.Elem]int{}}
	var text, line []api.Elem
	for rev := 1; rev <= log.Revs(); rev++ {
		op, _ := log.Done(rev)
		p.done = append(p.done, op)
		switch op.Kind {
		case api.Insert:
			x := inserted(op)
			p.born[x] = rev
			line = slices.Insert(line, behind(line, text[:op.Pos]), x)
			text = slices.Insert(text, op.Pos, x)
		case api.Delete:
			p.died[text[op.Pos]] = rev
			text = slices.Delete(text, op.Pos, op.Pos+1)
		}
	}
	for at, x := range line {
		p.place[x] = at
	}
	return p
}

// inserted gives the element that an insertion inserts.
func inserted(op api.Op) api.Elem { return api.Elem{Ch: op.Ch, Client: op.Client, Seq: op.Seq} }

// behind gives the place in the line next to the last element of head. Of those that were taken away some may stand there as well: no revision has them and a new element both, so their order is nobody's matter.
func behind(line, head []api.Elem) int {
	if len(head) == 0 {
		return 0
	}
	return slices.Index(line, head[len(head)-1]) + 1
}

// known tells whether there is such a revision.
func (p *Past) known(rev int) bool { return rev >= 0 && rev <= p.Revs() }

// standing gives what tells whether an element stands in the text of that revision.
func (p *Past) standing(rev int) func(api.Elem) bool {
	return func(x api.Elem) bool {
		end, gone := p.died[x]
		return p.born[x] <= rev && !(gone && end <= rev)
	}
}

// text gives the elements of that revision, in the line's order: a map's own order must not be seen.
func (p *Past) text(rev int) []api.Elem {
	var list []api.Elem
	stands := p.standing(rev)
	for x := range p.born {
		if stands(x) {
			list = append(list, x)
		}
	}
	slices.SortFunc(list, func(a, b api.Elem) int { return cmp.Compare(p.place[a], p.place[b]) })
	return list
}
