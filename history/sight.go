package history

import (
	"cmp"
	"slices"

	"jotter/api"
)

// sight is what a text has to hold where some edits are visible.
type sight struct {
	fates map[api.Elem]fate
	count int // how many elements are there to be seen
}

// fate is what the visible edits did to an element.
type fate struct {
	made, gone bool
	met        int // the last turn in which it was met in a text
}

func (f fate) there() bool { return f.made && !f.gone }

func newSight() *sight { return &sight{fates: map[api.Elem]fate{}} }

// see makes an edit visible. A deletion may come ahead of its insertion, and an edit twice.
func (s *sight) see(d deed) {
	f := s.fates[d.elem]
	if f.there() {
		s.count--
	}
	if d.edit.Op.Kind == api.Insert {
		f.made = true
	} else {
		f.gone = true
	}
	if f.there() {
		s.count++
	}
	s.fates[d.elem] = f
}

// isJust tells whether a text holds each element that is there once, and no other. Each text has a turn of its own, above 0, so that what stands twice is found.
func (s *sight) isJust(text []api.Elem, turn int) bool {
	if len(text) != s.count {
		return false
	}
	for _, x := range text {
		f := s.fates[x]
		if !f.there() || f.met == turn {
			return false
		}
		f.met = turn
		s.fates[x] = f
	}
	return true
}

// list gives all elements that are there, by Client and Seq.
func (s *sight) list() []api.Elem {
	var all []api.Elem
	for x, f := range s.fates {
		if f.there() {
			all = append(all, x)
		}
	}
	slices.SortFunc(all, func(a, b api.Elem) int {
		return cmp.Or(cmp.Compare(a.Client, b.Client), cmp.Compare(a.Seq, b.Seq))
	})
	return all
}
