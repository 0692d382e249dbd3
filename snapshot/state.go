package snapshot

import (
	"jotter/api"
	"jotter/doc"
	"jotter/space"
)

// side is what a state has of one client. States that come from one another share its list: it is never written into.
type side struct {
	seq int
	tag int
	// forms are what waits for the client of the records up to upTo. The others' records behind these wait as they are, and need not be kept once more for each client.
	forms []api.Marked
	upTo  int
}

// take adds an edit to a state that nobody has seen yet, or tells why it cannot stand.
func (s *Snap) take(e api.Edit) api.Errno {
	if bad := s.refuses(e); bad != api.OK {
		return bad
	}
	x := s.meet(e.Op.Client, e.Tag)
	if doc.Fits(s.room(x.Queue()), e.Op) != api.OK {
		return api.ErrPlace
	}
	op, _ := x.Cross(e.Op)
	s.records = append(s.records, op)
	s.sides[e.Op.Client] = side{seq: e.Op.Seq, tag: e.Tag, forms: x.Queue(), upTo: s.Revs()}
	return api.OK
}

// refuses tells why an edit cannot be its client's next one, whatever its place.
func (s *Snap) refuses(e api.Edit) api.Errno {
	if bad := doc.Valid(e.Op); bad != api.OK {
		return bad
	}
	seq, tag := s.Last(e.Op.Client)
	switch {
	case e.Op.Kind == api.Nop:
		return api.ErrNoEdit
	case e.Op.Seq <= seq:
		return api.ErrDone
	case e.Op.Seq > seq+1:
		return api.ErrTurn
	case e.Tag < tag || e.Tag > s.Revs():
		return api.ErrTag
	}
	return api.OK
}

// meet gives the server's side towards a client that has taken in so many records. The log comes first, ahead of what the client makes.
func (s *Snap) meet(client int, tag int) *space.Space {
	x := space.New(true)
	for _, m := range s.Waiting(client) {
		x.Keep(m.Mark, m.Op)
	}
	x.DropTo(tag)
	return x
}

// others gives the records with Revs above a number that are not the client's own, with these as their marks.
func (s *Snap) others(client int, above int) []api.Marked {
	var list []api.Marked
	for i, op := range s.records[above:] {
		if op.Client != client {
			list = append(list, api.Marked{Mark: above + i + 1, Op: op})
		}
	}
	return list
}

// room tells how many characters a client's text has, if this is what waits for it.
func (s *Snap) room(waiting []api.Marked) int {
	n := 0
	for _, op := range s.records {
		n += growth(op)
	}
	for _, m := range waiting {
		n -= growth(m.Op)
	}
	return n
}

// growth tells by how many characters an operation makes a text longer.
func growth(op api.Op) int {
	switch op.Kind {
	case api.Insert:
		return 1
	case api.Delete:
		return -1
	}
	return 0
}
