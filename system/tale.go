package system

import (
	"slices"

	"jotter/api"
)

// tale is what the users of a run saw. A text differs little from the one that its site showed before, so it is kept as that difference: whole texts, one for each record that comes to each client, would take thousands of times the room.
type tale struct {
	sights []sight
	last   []api.Event // by site: the last one; the zero event, if there is none
}

// sight is an event. Its Doc holds only what stands between a front and a back that it shares with the text before.
type sight struct {
	api.Event
	front, back int // how many characters these have
}

func newTale(clients int) tale { return tale{last: make([]api.Event, clients+1)} }

// add puts an event behind the others, and keeps its text.
func (t *tale) add(e api.Event) {
	before, text := t.last[e.Site].Doc, e.Doc
	t.last[e.Site] = e
	front := common(len(before), len(text), func(i int) bool { return before[i] == text[i] })
	back := common(len(before)-front, len(text)-front, func(i int) bool { return before[len(before)-1-i] == text[len(text)-1-i] })
	e.Doc = slices.Clone(text[front : len(text)-back])
	t.sights = append(t.sights, sight{e, front, back})
}

// common tells how many places two lists of these lengths share from an end on, if alike tells it of the i-th from there.
func common(a, b int, alike func(i int) bool) int {
	n := 0
	for n < min(a, b) && alike(n) {
		n++
	}
	return n
}

// events gives all events, each with a text of its own.
func (t *tale) events() []api.Event {
	texts := make([][]api.Elem, len(t.last))
	all := make([]api.Event, 0, len(t.sights))
	for _, s := range t.sights {
		before := texts[s.Site]
		e := s.Event
		e.Doc = slices.Concat(before[:s.front], s.Doc, before[len(before)-s.back:])
		texts[e.Site] = e.Doc
		all = append(all, e)
	}
	return all
}
