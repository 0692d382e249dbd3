package room

import (
	"math"
	"slices"
	"testing"

	"jotter/api"
	"jotter/system"
)

func newHand(t *testing.T, clients, site int) hand {
	t.Helper()
	x, e := system.New(clients)
	if e != api.OK {
		t.Fatalf("a system of %d clients: %v", clients, e)
	}
	return hand{x, site}
}

// TestHand: each edit is a step of the system and an event; what is answered is the edit that the client made.
func TestHand(t *testing.T) {
	h := newHand(t, 3, 2)
	for i, want := range []api.Edit{
		{Op: api.Op{Kind: api.Insert, Pos: 0, Ch: 'a', Client: 2, Seq: 1}},
		{Op: api.Op{Kind: api.Insert, Pos: 1, Ch: 'b', Client: 2, Seq: 2}},
		{Op: api.Op{Kind: api.Delete, Pos: 0, Client: 2, Seq: 3}},
	} {
		made := func() (api.Edit, api.Errno) { return h.Delete(want.Op.Pos) }
		if want.Op.Kind == api.Insert {
			made = func() (api.Edit, api.Errno) { return h.Insert(want.Op.Pos, int(want.Op.Ch)) }
		}
		got, e := made()
		if got != want || e != api.OK {
			t.Fatalf("P20.2: edit %d: %+v, %v, want %+v", i, got, e, want)
		}
		r := h.system.Report()
		if s := r.Steps[len(r.Steps)-1]; s.Err != api.OK || s.Kind != want.Op.Kind {
			t.Fatalf("P20.2: edit %d is the step %+v", i, s)
		}
		if v := r.Events[len(r.Events)-1]; v.Op != want.Op || v.Site != 2 || !slices.Equal(v.Doc, h.Doc()) {
			t.Fatalf("P20.2: edit %d is the event %+v", i, v)
		}
	}
	if got, want := h.Doc(), []api.Elem{{Ch: 'b', Client: 2, Seq: 2}}; !slices.Equal(got, want) {
		t.Fatalf("P20.2: the text %v, want %v", got, want)
	}
}

// TestHandRefuses: an error of the step is the answer, beside no edit; a ch that is no byte never comes to a step.
func TestHandRefuses(t *testing.T) {
	h := newHand(t, 1, 1)
	for _, ch := range []int{math.MinInt, -256, -159, -1, 256, 256 + 'a', 512 + 'a', 1<<32 + 'a', math.MaxInt} {
		if x, e := h.Insert(-1, ch); x != (api.Edit{}) || e != api.ErrCh {
			t.Errorf("P20.2: Insert of %d: %+v, %v", ch, x, e)
		}
	}
	if n := len(h.system.Report().Steps); n != 0 {
		t.Errorf("P20.2: %d steps", n)
	}
	for _, ch := range []int{0, 31, 127, 255} {
		if x, e := h.Insert(0, ch); x != (api.Edit{}) || e != api.ErrCh {
			t.Errorf("P20.2: Insert of %d: %+v, %v", ch, x, e)
		}
	}
	for _, pos := range []int{math.MinInt, -1, 1, math.MaxInt} {
		if x, e := h.Insert(pos, 'a'); x != (api.Edit{}) || e != api.ErrPos {
			t.Errorf("P20.2: Insert at %d: %+v, %v", pos, x, e)
		}
		if x, e := h.Delete(pos); x != (api.Edit{}) || e != api.ErrPos {
			t.Errorf("P20.2: Delete at %d: %+v, %v", pos, x, e)
		}
	}
	if n := len(h.system.Report().Steps); n != 12 {
		t.Errorf("P20.2: %d steps, want 12", n)
	}
	for range api.MaxEdits {
		h.Insert(0, 'a')
	}
	if x, e := h.Insert(0, 'a'); x != (api.Edit{}) || e != api.ErrQuota {
		t.Errorf("P20.2: the 65th edit: %+v, %v", x, e)
	}
}
