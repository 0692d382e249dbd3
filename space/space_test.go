package space_test

import (
	"math"
	"slices"
	"testing"

	"jotter/api"
	"jotter/doc"
	"jotter/space"
)

var sides = []bool{false, true}

func TestNew(t *testing.T) {
	for _, first := range sides {
		x := space.New(first)
		if x == nil {
			t.Fatalf("P10.1: New(%v) is nil", first)
		}
		wantState(t, "P10.1: a new space", x, 0)
		wantDrop(t, "P10.3: a new space", x, math.MaxInt, 0)
		wantCross(t, "P10.4: a new space", x, ins(4095, 'x'), ins(4095, 'x'))
		wantCross(t, "P10.4: a new space", x, del(0), del(0))
		wantCross(t, "P10.4: a new space", x, nop(), nop())
		wantState(t, "P10.4: a new space", x, 0)
		wantKeep(t, "P10.2: a new space", x, 0, nop(), api.ErrMark)
		wantKeep(t, "P10.2: a new space", x, 1, nop(), api.OK)
		wantState(t, "P10.2: a new space", x, 1, at(1, nop()))
	}
}

func TestSpacesShareNothing(t *testing.T) {
	one, two := filled(t, true, at(1, ins(0, 'a')), at(2, ins(1, 'b'))), filled(t, false, at(3, del(7)))
	three := space.New(true)
	wantCross(t, "P10.4", one, del(0), del(2))
	wantState(t, "P10.1: another space", two, 3, at(3, del(7)))
	wantDrop(t, "P10.3: another space", two, 3, 1)
	wantKeep(t, "P10.2: another space", two, 4, ins(0, 'z'), api.OK)
	wantState(t, "P10.1: the first space", one, 2, at(1, ins(0, 'a')), at(2, ins(1, 'b')))
	wantDrop(t, "P10.3: the first space", one, 1, 1)
	wantState(t, "P10.1: another space", two, 4, at(4, ins(0, 'z')))
	wantState(t, "P10.1: a third space", three, 0)
}

func TestExample1(t *testing.T) {
	x := space.New(true)
	wantKeep(t, "example 1", x, 1, ins(0, 'a'), api.OK)
	wantKeep(t, "example 1", x, 2, ins(1, 'b'), api.OK)
	for _, mark := range []int{2, 1, 0, 4097} {
		wantKeep(t, "example 1", x, mark, ins(2, 'c'), api.ErrMark)
	}
	wantKeep(t, "example 1", x, 2, api.Op{Kind: 9}, api.ErrOpKind)
	wantKeep(t, "example 1", x, 4096, ins(2, 'c'), api.OK)
	wantState(t, "example 1", x, 4096, at(1, ins(0, 'a')), at(2, ins(1, 'b')), at(4096, ins(2, 'c')))
	for _, mark := range edges(0, 2, 4096) {
		wantKeep(t, "example 1", x, mark, ins(2, 'c'), api.ErrMark)
	}
}

func TestExample2(t *testing.T) {
	kept := []api.Marked{at(1, ins(0, 'a')), at(2, ins(1, 'b'))}
	x := filled(t, true, kept...)
	wantLook(t, "example 2", x, ins(0, 'x'), ins(2, 'x'))
	wantCross(t, "example 2", x, ins(0, 'x'), ins(2, 'x'))
	wantState(t, "example 2", x, 2, kept...)
	y := filled(t, false, kept...)
	wantCross(t, "example 2: not first", y, ins(0, 'x'), ins(0, 'x'))
	wantState(t, "example 2: not first", y, 2, at(1, ins(1, 'a')), at(2, ins(2, 'b')))
}

func TestExample3(t *testing.T) {
	x := filled(t, true, at(3, by(del(0), 5, 6)))
	wantCross(t, "example 3", x, by(del(0), 7, 8), by(nop(), 7, 8))
	wantState(t, "example 3", x, 3, at(3, by(nop(), 5, 6)))
	wantCross(t, "example 3", x, ins(4, 'x'), ins(4, 'x'))
	wantDrop(t, "example 3", x, 2, 0)
	wantDrop(t, "example 3", x, 3, 1)
	wantDrop(t, "example 3", x, 3, 0)
	wantState(t, "example 3", x, 3)
	wantCross(t, "example 3", x, ins(4, 'x'), ins(4, 'x'))
}

func TestExample4(t *testing.T) {
	for _, first := range sides {
		x := filled(t, first, at(2, ins(0, 'a')), at(5, ins(1, 'b')), at(9, ins(2, 'c')))
		wantDrop(t, "example 4", x, 5, 2)
		wantState(t, "example 4", x, 9, at(9, ins(2, 'c')))
		wantDrop(t, "example 4", x, -7, 0)
		wantState(t, "example 4", x, 9, at(9, ins(2, 'c')))
		wantDrop(t, "example 4", x, 1<<62, 1)
		wantState(t, "example 4", x, 9)
	}
}

func TestExample5(t *testing.T) {
	x := filled(t, false, at(1, ins(0, 'a')))
	wantRefused(t, "example 5", x, api.Op{Kind: 5}, api.ErrOpKind)
	wantRefused(t, "example 5", x, del(4096), api.ErrPos)
}

func TestExample6(t *testing.T) {
	begin := play(t, play(t, nil, by(ins(0, 'a'), 2, 1)), by(ins(1, 'b'), 2, 2))
	server, client := newEnd(true, begin), newEnd(false, begin)
	server.makes(t, client, by(ins(0, 'x'), 3, 1))
	client.makes(t, server, by(del(1), 1, 1))
	client.makes(t, server, by(ins(1, 'c'), 1, 2))
	wantText(t, "example 6: the server", server, "xab")
	wantText(t, "example 6: the client", client, "ac")
	client.takes(t)
	wantText(t, "example 6: the client", client, "xac")
	wantState(t, "example 6: the client", client.space, 2, at(1, by(del(2), 1, 1)), at(2, by(ins(2, 'c'), 1, 2)))
	server.takes(t)
	wantText(t, "example 6: the server", server, "xa")
	wantState(t, "example 6: the server", server.space, 1, at(1, by(ins(0, 'x'), 3, 1)))
	server.takes(t)
	wantText(t, "example 6: the server", server, "xac")
	wantMet(t, server, client)
}

// TestKeepAtTheEdges keeps under each mark that lies at an edge, behind each last mark that does.
func TestKeepAtTheEdges(t *testing.T) {
	for _, last := range []int{0, 1, 2, 3, 100, 4093, 4094, 4095, 4096} {
		for _, mark := range edges(0, last, 4096) {
			x := space.New(last%2 == 0)
			var queue []api.Marked
			if last > 0 {
				queue = append(queue, at(last, ins(0, 'a')))
				wantKeep(t, "P10.2", x, last, ins(0, 'a'), api.OK)
			}
			if mark <= last || mark > 4096 {
				wantKeep(t, "P10.2: at an edge", x, mark, del(1), api.ErrMark)
				wantState(t, "P10.2: a refused Keep", x, last, queue...)
				continue
			}
			wantKeep(t, "P10.2: at an edge", x, mark, del(1), api.OK)
			wantState(t, "P10.2: a Keep", x, mark, append(queue, at(mark, del(1)))...)
			wantKeep(t, "P10.2: the same mark again", x, mark, del(1), api.ErrMark)
		}
	}
}

func TestKeepLooksAtTheOperationFirst(t *testing.T) {
	for op, want := range wrongOps() {
		x := filled(t, true, at(7, ins(0, 'a')))
		for _, mark := range edges(0, 7, 4096) {
			wantKeep(t, "P10.2: no operation", x, mark, op, want)
			wantState(t, "P10.2: a refused Keep", x, 7, at(7, ins(0, 'a')))
		}
		wantRefused(t, "P10.4: no operation", x, op, want)
		wantRefused(t, "P10.4: no operation, a new space", space.New(false), op, want)
	}
}

// TestAllValidOperations: each is kept as it is, whatever stands ahead of it, and crosses an empty queue as it is.
func TestAllValidOperations(t *testing.T) {
	x, empty := space.New(false), space.New(true)
	var queue []api.Marked
	for _, op := range validOps() {
		queue = append(queue, at(len(queue)+1, op))
		wantKeep(t, "P10.2: a valid one", x, len(queue), op, api.OK)
		wantCross(t, "P10.4: a valid one past nothing", empty, op, op)
	}
	wantState(t, "P10.2: all as they were made", x, len(queue), queue...)
	wantState(t, "P10.4: all past nothing", empty, 0)
}

// validOps gives operations with every field at its edges, and with every character.
func validOps() []api.Op {
	var all []api.Op
	for _, client := range []int{1, 2, 63, 64} {
		for _, seq := range []int{1, 2, 63, 64} {
			all = append(all, by(nop(), client, seq))
			for _, pos := range []int{0, 1, 2, 4094, 4095} {
				all = append(all, by(del(pos), client, seq), by(ins(pos, 32), client, seq), by(ins(pos, 126), client, seq))
			}
		}
	}
	for ch := api.LeastCh; ch <= api.MostCh; ch++ {
		all = append(all, ins(ch, byte(ch)))
	}
	return all
}

func TestAllMarks(t *testing.T) {
	for _, first := range sides {
		x := space.New(first)
		var queue []api.Marked
		for mark := 1; mark <= 4096; mark++ {
			op := by(ins(mark-1, 'a'), 1+mark%64, 1+mark/64%64)
			wantKeep(t, "P10.2: every mark", x, mark, op, api.OK)
			queue = append(queue, at(mark, op))
		}
		wantState(t, "P10.2: every mark", x, 4096, queue...)
		wantKeep(t, "P10.2: one more", x, 4097, nop(), api.ErrMark)
		wantLook(t, "P10.5: past every mark", x, by(del(5), 9, 9), by(del(5+4096), 9, 9))
		wantState(t, "P10.5: past every mark", x, 4096, queue...)
		wantDrop(t, "P10.3: every mark", x, 4095, 4095)
		wantState(t, "P10.3: the last mark", x, 4096, queue[4095])
		wantDrop(t, "P10.3: every mark", x, 4096, 1)
		wantState(t, "P10.3: none is left", x, 4096)
		for _, mark := range edges(0, 4096) {
			wantKeep(t, "P10.2: the marks are used up", x, mark, nop(), api.ErrMark)
		}
		wantCross(t, "P10.4: none is left", x, ins(0, 'x'), ins(0, 'x'))
	}
}

// TestDropTo drops up to every number from spaces with every choice of the marks 1 to 6.
func TestDropTo(t *testing.T) {
	for choice := range 1 << 6 {
		var kept []api.Marked
		for mark := 1; mark <= 6; mark++ {
			if choice>>(mark-1)&1 == 1 {
				kept = append(kept, at(mark, by(ins(mark, byte('a'+mark)), 2, mark)))
			}
		}
		last := 0
		if len(kept) > 0 {
			last = kept[len(kept)-1].Mark
		}
		for _, mark := range edges(0, 3, 6) {
			x := filled(t, mark%2 == 0, kept...)
			left := slices.DeleteFunc(slices.Clone(kept), func(m api.Marked) bool { return m.Mark <= mark })
			wantDrop(t, "P10.3", x, mark, len(kept)-len(left))
			wantState(t, "P10.3", x, last, left...)
			wantDrop(t, "P10.3: once more", x, mark, 0)
			wantState(t, "P10.3: once more", x, last, left...)
			wantKeep(t, "P10.2: the last mark stays", x, last, nop(), api.ErrMark)
			wantKeep(t, "P10.2: behind a drop", x, last+1, nop(), api.OK)
			wantState(t, "P10.2: behind a drop", x, last+1, append(left, at(last+1, nop()))...)
		}
	}
}

func TestDroppedOnesCountNoMore(t *testing.T) {
	x := filled(t, true, at(1, ins(0, 'a')), at(2, del(3)), at(3, ins(2, 'c')))
	wantLook(t, "P10.4: all three", x, ins(6, 'x'), ins(7, 'x'))
	wantDrop(t, "P10.3", x, 1, 1)
	wantCross(t, "P10.4: two are left", x, ins(6, 'x'), ins(6, 'x'))
	wantDrop(t, "P10.3", x, 2, 1)
	wantCross(t, "P10.4: one is left", x, ins(6, 'x'), ins(7, 'x'))
	wantDrop(t, "P10.3", x, 3, 1)
	wantCross(t, "P10.4: none is left", x, ins(6, 'x'), ins(6, 'x'))
}

// TestFormsStayBehindADrop: what a drop leaves is as Cross made it, not as it was kept.
func TestFormsStayBehindADrop(t *testing.T) {
	x := filled(t, false, at(2, ins(3, 'a')), at(4, del(5)), at(6, ins(0, 'c')))
	wantCross(t, "P10.4", x, by(ins(2, 'x'), 2, 2), by(ins(3, 'x'), 2, 2))
	wantState(t, "P10.4", x, 6, at(2, ins(4, 'a')), at(4, del(6)), at(6, ins(0, 'c')))
	wantDrop(t, "P10.3", x, 3, 1)
	wantState(t, "P10.3", x, 6, at(4, del(6)), at(6, ins(0, 'c')))
	wantKeep(t, "P10.2", x, 7, ins(9, 'd'), api.OK)
	wantCross(t, "P10.4", x, by(del(6), 3, 3), by(nop(), 3, 3))
	wantState(t, "P10.4", x, 7, at(4, nop()), at(6, ins(0, 'c')), at(7, ins(9, 'd')))
}

// TestPlacesBeyondTheText: a form that came about is not looked at, however far it has gone.
func TestPlacesBeyondTheText(t *testing.T) {
	x := filled(t, false, at(1, ins(4095, 'a')), at(2, del(4095)))
	for i := range 10 {
		wantCross(t, "P10.4: far places", x, by(ins(0, 'x'), 2, 1), by(ins(0, 'x'), 2, 1))
		wantState(t, "P10.4: far places", x, 2, at(1, ins(4096+i, 'a')), at(2, del(4096+i)))
	}
	wantCross(t, "P10.4: ahead of far places", x, del(4095), del(4095))
	wantState(t, "P10.4: ahead of far places", x, 2, at(1, ins(4104, 'a')), at(2, del(4104)))
	wantDrop(t, "P10.3: far places", x, 1, 1)
	wantState(t, "P10.3: far places", x, 2, at(2, del(4104)))
	y := filled(t, true, at(1, ins(0, 'a')), at(2, ins(4095, 'b')))
	wantCross(t, "P10.4: a far answer", y, ins(4095, 'x'), ins(4097, 'x'))
	wantState(t, "P10.4: a far answer", y, 2, at(1, ins(0, 'a')), at(2, ins(4095, 'b')))
	wantCross(t, "P10.4: a far answer", y, del(4094), del(4096))
	wantState(t, "P10.4: a far answer", y, 2, at(1, ins(0, 'a')), at(2, ins(4095, 'b')))
}

// TestEditsStay: an answer holds the edit of what was crossed, the queue those of what was kept, whatever becomes of them.
func TestEditsStay(t *testing.T) {
	for _, first := range sides {
		x := filled(t, first, at(1, by(del(2), 3, 4)), at(2, by(ins(2, 'q'), 5, 6)))
		wantCross(t, "P10.4: twice deleted", x, by(del(2), 7, 8), by(nop(), 7, 8))
		wantState(t, "P10.4: twice deleted", x, 2, at(1, by(nop(), 3, 4)), at(2, by(ins(2, 'q'), 5, 6)))
		wantCross(t, "P10.4: past a Nop", x, by(del(1), 9, 10), by(del(1), 9, 10))
		wantState(t, "P10.4: past a Nop", x, 2, at(1, by(nop(), 3, 4)), at(2, by(ins(1, 'q'), 5, 6)))
		wantCross(t, "P10.4: a Nop", x, by(nop(), 11, 12), by(nop(), 11, 12))
		wantState(t, "P10.4: a Nop", x, 2, at(1, by(nop(), 3, 4)), at(2, by(ins(1, 'q'), 5, 6)))
	}
}

// TestTieOfInserts: of inserts at one place those of the first side stand left, and nothing else hangs on the side.
func TestTieOfInserts(t *testing.T) {
	x := filled(t, true, at(1, ins(5, 'a')))
	wantCross(t, "P10.4: a tie, first", x, ins(5, 'x'), ins(6, 'x'))
	wantState(t, "P10.4: a tie, first", x, 1, at(1, ins(5, 'a')))
	y := filled(t, false, at(1, ins(5, 'a')))
	wantCross(t, "P10.4: a tie, not first", y, ins(5, 'x'), ins(5, 'x'))
	wantState(t, "P10.4: a tie, not first", y, 1, at(1, ins(6, 'a')))
	for _, first := range sides {
		z := filled(t, first, at(1, ins(5, 'a')))
		wantCross(t, "P10.4: no tie", z, ins(4, 'x'), ins(4, 'x'))
		wantState(t, "P10.4: no tie", z, 1, at(1, ins(6, 'a')))
		wantCross(t, "P10.4: no tie", z, ins(7, 'x'), ins(8, 'x'))
		wantState(t, "P10.4: no tie", z, 1, at(1, ins(6, 'a')))
	}
}

func TestQueueIsNewMemory(t *testing.T) {
	kept := []api.Marked{at(2, ins(0, 'a')), at(4, del(3)), at(6, nop())}
	x := filled(t, true, kept...)
	one, two := x.Queue(), x.Queue()
	for i := range one {
		one[i] = at(99, ins(77, 'z'))
	}
	_ = append(one, at(98, del(1)))
	scribble(one)
	if !slices.Equal(two, kept) {
		t.Errorf("P0.2: a change of one answer shows in another: %s", words(two))
	}
	wantState(t, "P0.2: behind a change of an answer", x, 6, kept...)
	wantKeep(t, "P10.2", x, 8, ins(1, 'b'), api.OK)
	if !slices.Equal(two, kept) {
		t.Errorf("P0.2: an answer changes behind a Keep: %s", words(two))
	}
	wantCross(t, "P10.4", x, ins(0, 'x'), ins(2, 'x'))
	wantDrop(t, "P10.3", x, 4, 2)
	if !slices.Equal(two, kept) {
		t.Errorf("P0.2: an answer changes behind Cross and DropTo: %s", words(two))
	}
	scribble(two)
	scribble(x.Queue())
	wantState(t, "P0.2: behind a change of an answer", x, 8, at(6, nop()), at(8, ins(1, 'b')))
}

// scribble writes over a list and its spare room.
func scribble(list []api.Marked) {
	list = list[:cap(list)]
	for i := range list {
		list[i] = at(-1, api.Op{Kind: 7})
	}
}

// TestAskingChangesNothing asks at each step of a run, in a twin of a space that is not asked.
func TestAskingChangesNothing(t *testing.T) {
	for seed := range 50 {
		r, first := dice(seed), seed%2 == 0
		asked, quiet := space.New(first), space.New(first)
		for mark := 1; mark <= 40; mark++ {
			for range r.IntN(4) {
				asked.Look(anyOp(r, 9))
				asked.Look(api.Op{Kind: 4})
				asked.Queue()
				asked.Last()
			}
			op, other, to := anyOp(r, 9), anyOp(r, 9), mark-r.IntN(9)
			wantKeep(t, "P10.2", asked, mark, op, quiet.Keep(mark, op))
			want, _ := quiet.Cross(other)
			wantCross(t, "P10.5: asked ahead of it", asked, other, want)
			wantDrop(t, "P10.6: asked ahead of it", asked, to, quiet.DropTo(to))
			wantState(t, "P10.6: asked ahead of it", asked, quiet.Last(), quiet.Queue()...)
		}
	}
}

// TestKeepAsksForNoText: what is kept need not fit behind what stands there.
func TestKeepAsksForNoText(t *testing.T) {
	x := filled(t, true, at(1, del(4095)), at(2, del(0)), at(3, ins(4095, 'z')))
	if doc.Fits(0, del(4095)) == api.OK {
		t.Fatalf("P4.2: d4095 fits the empty text")
	}
	wantCross(t, "P10.4: no text fits", x, ins(4095, 'x'), ins(4094, 'x'))
	wantState(t, "P10.4: no text fits", x, 3, at(1, del(4096)), at(2, del(0)), at(3, ins(4096, 'z')))
}
