package history_test

import (
	"testing"

	"jotter/api"
)

// TestRule1: an edit event shows what its operation makes of the text before, whatever else that text is.
func TestRule1(t *testing.T) {
	c := el('c', 1, 3)
	three := func(text ...api.Elem) api.History {
		return bent(alone(), func(h *api.History) { h.Events = append(h.Events, makes(0, ins(1, 'c', 1, 3), text...)) })
	}
	wantVerdict(t, "in the middle", three(a, c, b), 0, 0, 0)
	for what, text := range map[string][]api.Elem{
		"left of it": {c, a, b}, "right of it": {a, b, c}, "others turned round": {b, c, a}, "not there": {a, b}, "one lost": {a, c}, "nothing": {},
		"another letter": {a, el('d', 1, 3), b}, "another Seq": {a, el('c', 1, 4), b}, "another client": {a, el('c', 2, 3), b},
		"twice": {a, c, c, b}, "one more": {a, c, b, b}, "another's letter changed": {a, c, el('B', 1, 2)},
	} {
		wantVerdict(t, what, three(text...), 1, 2, 1)
	}
	wantVerdict(t, "a deletion that takes nothing", with(erased(), 2, x), 1, 2, 1)
	wantVerdict(t, "at first: no event before", with(together(), 0), 1, 0, -1)
	wantVerdict(t, "at first: no event before", with(together(), 1, x), 1, 1, -1)
	// The event before is one of the same site, however far ahead.
	far := bent(together(), func(h *api.History) { h.Events = append(h.Events, makes(1, ins(2, 'z', 2, 2), x, y)) })
	wantVerdict(t, "far ahead", far, 1, 6, 2)
	// No other rule counts at that event, and no later event.
	wantVerdict(t, "and all else is wrong", with(with(with(together(), 0, y, y), 1, x, x), 2, w), 1, 0, -1)
	// A text that is wrong already is wrong by rule 2 at its own event, not by rule 1 at the next.
	wantVerdict(t, "wrong before", with(with(erased(), 1, y), 2), 2, 1, -1)
}

// TestRule2: a text holds just what Seen tells, each once.
func TestRule2(t *testing.T) {
	for what, text := range map[string][]api.Elem{
		"nothing": {}, "one alone": {x}, "the other alone": {y}, "one twice": {x, x}, "one twice, one once": {x, y, y}, "one more": {x, y, w},
		"another letter": {x, el('z', 2, 1)}, "another client": {x, el('y', 3, 1)}, "a Seq below 0": {x, el('y', 2, -1)}, "no element": {x, y, {}},
	} {
		for _, i := range []int{2, 4, 5} {
			wantVerdict(t, what, with(together(), i, text...), 2, i, -1)
		}
	}
	wantVerdict(t, "it is deleted", with(erased(), 3, x), 2, 3, -1)
	wantVerdict(t, "its record has not come", with(together(), 3, x, y), 2, 3, -1)
	wantVerdict(t, "the server shows what is not in the log", bent(together(), func(h *api.History) {
		h.Log = h.Log[:1]
		h.Events = append(h.Events[:4], reads(0, 1, 0, x, y))
	}), 2, 4, -1)
	wantVerdict(t, "the server's first text", bent(together(), func(h *api.History) { h.Events = append(h.Events[:2], reads(0, 0, 0, x)) }), 2, 2, -1)
}

// TestRule3: of two texts with the same edits, the later one is told, and the first that is another.
func TestRule3(t *testing.T) {
	wantVerdict(t, "the server against client 2", with(together(), 5, y, x), 3, 5, 2)
	again := bent(together(), func(h *api.History) { h.Events = append(h.Events, reads(2, 2, 1, y, x)) })
	wantVerdict(t, "against its own text, too", again, 3, 6, 2)
	again.Events[2].Have = 2
	wantVerdict(t, "with more records, but the same edits", again, 3, 6, 2)
	// The same edits, though the numbers of records are not the same: client 1's records 1 and 2 are its own.
	own := func(text ...api.Elem) api.History {
		return api.History{
			Clients: 2,
			Log:     []api.Edit{edit(0, ins(0, 'a', 1, 1)), edit(0, ins(1, 'b', 1, 2)), edit(1, ins(1, 'y', 2, 1))},
			Events: []api.Event{
				makes(0, ins(0, 'a', 1, 1), a), makes(0, ins(1, 'b', 1, 2), a, b), reads(2, 1, 0, a), makes(1, ins(1, 'y', 2, 1), a, y),
				reads(0, 2, 0, text...), reads(2, 2, 1, a, b, y),
			},
		}
	}
	wantVerdict(t, "one order", own(a, b), 0, 0, 0)
	wantVerdict(t, "all its edits, with no record and with two", own(b, a), 3, 4, 1)
	// Other edits of other clients, as many as there are: no rule 3.
	others := bent(together(), func(h *api.History) {
		h.Log = nil
		h.Events = []api.Event{h.Events[0], h.Events[1], reads(1, 0, 1, x), reads(2, 0, 1, y)}
	})
	wantVerdict(t, "other edits", others, 0, 0, 0)
}

// TestRule4: two elements that an earlier text holds the other way round, whatever stands between them.
func TestRule4(t *testing.T) {
	wantVerdict(t, "side by side", withThird(y, x, w), 4, 7, 2)
	wantVerdict(t, "another between", withThird(y, w, x), 4, 7, 2)
	wantVerdict(t, "turned round as a whole", withThird(w, y, x), 4, 7, 2)
	// Only w stands where it must not, and no earlier text holds w beside another: rule 5.
	wantVerdict(t, "w elsewhere", withThird(w, x, y), 5, 7, -1)
	wantVerdict(t, "w elsewhere", withThird(x, w, y), 5, 7, -1)
	// The earlier text has elements between the two that the later one has not.
	c := el('c', 1, 3)
	between := func(text ...api.Elem) api.History {
		return api.History{
			Clients: 2,
			Log:     []api.Edit{edit(0, ins(0, 'a', 1, 1)), edit(0, ins(1, 'b', 1, 2)), edit(0, ins(2, 'c', 1, 3)), edit(0, del(1, 1, 4))},
			Events: []api.Event{
				makes(0, ins(0, 'a', 1, 1), a), makes(0, ins(1, 'b', 1, 2), a, b), makes(0, ins(2, 'c', 1, 3), a, b, c), makes(0, del(1, 1, 4), a, c),
				makes(0, ins(0, 'y', 2, 1), y), reads(2, 4, 1, text...),
			},
		}
	}
	wantVerdict(t, "b is gone", between(a, c, y), 0, 0, 0)
	wantVerdict(t, "b is gone", between(c, a, y), 4, 5, 2)
	wantVerdict(t, "b is gone", between(c, y, a), 4, 5, 2)
	wantVerdict(t, "b is gone", between(a, y, c), 5, 5, -1)
	// The server's text counts, too, and the least of those that speak against it is told.
	told := bent(withThird(y, x, w), func(h *api.History) { h.Events[2], h.Events[5] = reads(0, 2, 0, x, y), reads(2, 1, 1, x, y) })
	wantVerdict(t, "the server's", told, 4, 7, 2)
}

// TestRule5: a text is that of the state on its site's path.
func TestRule5(t *testing.T) {
	wantVerdict(t, "client 2, by the log", with(together(), 2, y, x), 5, 2, -1)
	// The server's text is held against the done forms: nobody showed both before.
	first := bent(together(), func(h *api.History) { h.Events = append(h.Events[:2], reads(0, 2, 0, y, x)) })
	wantVerdict(t, "the server, by the log", first, 5, 2, -1)
	wantVerdict(t, "the server, by the log", with(first, 2, x, y), 0, 0, 0)
	// With the log the other way round it is the other way round.
	turned := bent(together(), func(h *api.History) {
		h.Log[0], h.Log[1] = h.Log[1], h.Log[0]
		h.Events = append(h.Events[:2], reads(0, 2, 0, y, x), reads(1, 1, 1, y, x), reads(2, 1, 1, y), reads(2, 2, 1, y, x))
	})
	wantVerdict(t, "the other way round", turned, 0, 0, 0)
	wantVerdict(t, "the other way round", with(turned, 2, x, y), 5, 2, -1)
	// An edit event, too: client 1 shows an element that a forged text of client 2 takes away, and rule 2 holds for both.
	h := api.History{
		Clients: 2,
		Log:     []api.Edit{edit(0, ins(0, 'a', 1, 1)), edit(0, ins(1, 'b', 1, 2)), edit(2, del(0, 2, 1))},
		Events: []api.Event{
			makes(0, ins(0, 'a', 1, 1), a), makes(0, ins(1, 'b', 1, 2), a, b), reads(1, 3, 2, a), reads(2, 2, 0, b, a), makes(2, del(0, 2, 1), a),
		},
	}
	wantSeen(t, "b is taken away", h, 2, a)
	wantVerdict(t, "by the log it is a", h, 5, 2, -1)
	h.Events = append(h.Events[:2], h.Events[3:]...)
	wantVerdict(t, "turned round first", h, 3, 2, 1)
}

// TestLeastEvent: of many broken events the least is told, of its rules the least, whichever site it is of.
func TestLeastEvent(t *testing.T) {
	for first := range 6 {
		h := together()
		for i := first; i < 6; i++ {
			h.Events[i].Doc = []api.Elem{w, w}
		}
		if first < 2 {
			wantVerdict(t, "all from there on", h, 1, first, -1)
		} else {
			wantVerdict(t, "all from there on", h, 2, first, -1)
		}
	}
	wantVerdict(t, "rule 5, and later rule 2", with(with(together(), 2, y, x), 3), 5, 2, -1)
	wantVerdict(t, "rule 5, and later rule 3", with(with(together(), 2, y, x), 4, x, y), 5, 2, -1)
	wantVerdict(t, "rule 3, and later rule 2", with(with(together(), 4, y, x), 5, x), 3, 4, 2)
	wantVerdict(t, "rule 4, and later rule 1", bent(withThird(y, x, w), func(h *api.History) {
		h.Events = append(h.Events, makes(3, ins(0, 'v', 1, 2)))
	}), 4, 7, 2)
	wantVerdict(t, "no event", api.History{Clients: 64}, 0, 0, 0)
}
