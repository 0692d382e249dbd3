package desk

import (
	"slices"

	"jotter/api"
)

// act is one edit that was made.
type act struct {
	elem  api.Elem   // the element that it made, or took away
	took  bool       // it took it away
	ahead []api.Elem // then: what stood ahead of it, the nearest first
}

// deed is what one call made, in its order.
type deed []act

// rename lets a new element take an old one's place.
func (d deed) rename(old, fresh api.Elem) {
	for i := range d {
		if d[i].elem == old {
			d[i].elem = fresh
		}
		renameIn(d[i].ahead, old, fresh)
	}
}

// need tells how many edits it takes to take the deed back, in a text whose elements have these places.
func (d deed) need(places map[api.Elem]int) int {
	n := 0
	for _, a := range d {
		if _, there := places[a.elem]; there || a.took {
			n++
		}
	}
	return n
}

// deeds is a list of deeds, of which the last one is taken back first.
type deeds struct{ list []deed }

func (l *deeds) push(d deed) { l.list = append(l.list, d) }

func (l *deeds) last() deed { return l.list[len(l.list)-1] }

func (l *deeds) dropLast() { l.list = slices.Delete(l.list, len(l.list)-1, len(l.list)) }

func (l *deeds) empty() { l.list = nil }

func (l *deeds) count() int { return len(l.list) }

func (l *deeds) rename(old, fresh api.Elem) {
	for _, d := range l.list {
		d.rename(old, fresh)
	}
}

// side is the undo side or the redo side: they differ by what is answered when nothing is there.
type side struct {
	deeds
	bare api.Errno
}

// renameIn lets a new element take an old one's place in a list.
func renameIn(list []api.Elem, old, fresh api.Elem) {
	for i, x := range list {
		if x == old {
			list[i] = fresh
		}
	}
}
