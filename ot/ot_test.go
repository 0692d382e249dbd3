package ot_test

import (
	"slices"
	"testing"

	"jotter/api"
	"jotter/ot"
)

const least, most = -1 << 63, 1<<63 - 1

func TestShiftExamples(t *testing.T) {
	x, y, d, both := ins(3, 'x', 1), ins(3, 'y', 2), del(3, 1), []bool{true, false}
	wantShift(t, "P5.1: example 1", x, y, true, x)
	wantShift(t, "P5.1: example 1", x, y, false, ins(4, 'x', 1))
	for _, first := range both {
		wantShift(t, "P5.1: example 1", x, ins(2, 'y', 2), first, ins(4, 'x', 1))
		wantShift(t, "P5.1: example 1", x, ins(4, 'y', 2), first, x)
		wantShift(t, "P5.1: example 2", x, del(3, 2), first, x)
		wantShift(t, "P5.1: example 2", x, del(2, 2), first, ins(2, 'x', 1))
		wantShift(t, "P5.1: example 2", x, del(4, 2), first, x)
		wantShift(t, "P5.1: example 3", d, y, first, del(4, 1))
		wantShift(t, "P5.1: example 3", d, ins(2, 'y', 2), first, del(4, 1))
		wantShift(t, "P5.1: example 3", d, ins(4, 'y', 2), first, d)
		wantShift(t, "P5.1: example 4", d, del(3, 2), first, nop(1))
		wantShift(t, "P5.1: example 4", d, del(2, 2), first, del(2, 1))
		wantShift(t, "P5.1: example 4", d, del(4, 2), first, d)
	}
}

// shiftByRules says P5.1 over again, as far as it can in other words: by how much a's place moves, and whether a is done already.
func shiftByRules(a, b api.Op, first bool) api.Op {
	pair := [2]int{a.Kind, b.Kind}
	at := [2]bool{b.Pos < a.Pos, b.Pos == a.Pos}
	switch {
	case pair == [2]int{1, 1} && at[0], pair == [2]int{1, 1} && at[1] && !first:
		a.Pos += 1
	case pair == [2]int{1, 2} && at[0], pair == [2]int{2, 2} && at[0]:
		a.Pos -= 1
	case pair == [2]int{2, 1} && at[0], pair == [2]int{2, 1} && at[1]:
		a.Pos += 1
	case pair == [2]int{2, 2} && at[1]:
		a = api.Op{Client: a.Client, Seq: a.Seq}
	}
	return a
}

// Every kind with every other, the odd ones too, at places around each other and at the ends of int; the fields that Shift does not look at hold what no operation may.
func TestShiftOfAllKinds(t *testing.T) {
	kinds := []int{least, -1, api.Nop, api.Insert, api.Delete, 3, 7, most}
	places := []int{least, least + 1, -1, 0, 1, 2, 3, 4, api.MaxDoc, most - 1, most}
	for _, ka := range kinds {
		for _, kb := range kinds {
			for _, pa := range places {
				for _, pb := range places {
					a := api.Op{Kind: ka, Pos: pa, Ch: 200, Client: -4, Seq: 99}
					b := api.Op{Kind: kb, Pos: pb, Ch: 7, Client: 65, Seq: least}
					for _, first := range []bool{true, false} {
						wantShift(t, "P5.1", a, b, first, shiftByRules(a, b, first))
					}
				}
			}
		}
	}
}

func TestShiftWrapsRound(t *testing.T) {
	wantShift(t, "P5.1: Pos + 1", ins(most, 'x', 1), ins(0, 'y', 2), true, ins(least, 'x', 1))
	wantShift(t, "P5.1: Pos + 1", ins(most, 'x', 1), ins(most, 'y', 2), false, ins(least, 'x', 1))
	wantShift(t, "P5.1: Pos + 1", del(most, 1), ins(most, 'y', 2), true, del(least, 1))
	wantShift(t, "P5.1: Pos - 1", del(least+1, 1), del(least, 2), true, del(least, 1))
	wantShift(t, "P5.1: the least place has none below it", ins(least, 'x', 1), del(most, 2), true, ins(least, 'x', 1))
}

func TestShiftOfNops(t *testing.T) {
	odd := api.Op{Kind: 7, Pos: 3, Ch: 9, Client: -4, Seq: 99}
	for _, first := range []bool{true, false} {
		for _, b := range ops(nop(2), ins(0, 'y', 2), del(0, 2), del(3, 2), odd) {
			wantShift(t, "P5.1: a Nop", nop(1), b, first, nop(1))
			wantShift(t, "P5.1: an odd kind", odd, b, first, odd)
		}
		for _, a := range ops(ins(3, 'x', 1), del(3, 1)) {
			wantShift(t, "P5.1: past a Nop", a, nop(2), first, a)
			wantShift(t, "P5.1: past an odd kind", a, odd, first, a)
			wantShift(t, "P5.1: past an odd kind", a, api.Op{Kind: -1}, first, a)
		}
	}
}

// The Nop of two deletions holds nothing but a's edit, whatever else a held.
func TestShiftOfOneElementDeletedTwice(t *testing.T) {
	a := api.Op{Kind: api.Delete, Pos: 3, Ch: 'q', Client: 5, Seq: 6}
	wantShift(t, "P5.1", a, del(3, 2), true, api.Op{Client: 5, Seq: 6})
	wantShift(t, "P5.1", a, del(3, 2), false, api.Op{Client: 5, Seq: 6})
	wantShift(t, "P5.1", a, del(2, 2), false, api.Op{Kind: api.Delete, Pos: 2, Ch: 'q', Client: 5, Seq: 6})
}

func TestCross(t *testing.T) {
	for _, c := range []struct{ a, b, a2, b2 api.Op }{
		{ins(1, 'x', 1), ins(1, 'y', 2), ins(1, 'x', 1), ins(2, 'y', 2)}, // example 5
		{del(0, 1), ins(1, 'y', 2), del(0, 1), ins(0, 'y', 2)},           // example 6
		{del(1, 1), ins(1, 'y', 2), del(2, 1), ins(1, 'y', 2)},
		{ins(0, 'x', 1), del(0, 2), ins(0, 'x', 1), del(1, 2)},
		{del(1, 1), del(1, 2), nop(1), nop(2)},
		{del(1, 1), del(0, 2), del(0, 1), del(0, 2)},
		{ins(2, 'x', 1), nop(2), ins(2, 'x', 1), nop(2)},
	} {
		if a2, b2 := ot.Cross(c.a, c.b); a2 != c.a2 || b2 != c.b2 {
			t.Errorf("P5.2: Cross(%+v, %+v) = %+v, %+v, want %+v, %+v", c.a, c.b, a2, b2, c.a2, c.b2)
		}
	}
}

func TestCrossIsTwoShifts(t *testing.T) {
	r := dice(1)
	for range 5000 {
		a, b := oddOp(r), oddOp(r)
		a2, b2 := ot.Cross(a, b)
		if a2 != shiftByRules(a, b, true) || b2 != shiftByRules(b, a, false) {
			t.Fatalf("P5.2: Cross(%+v, %+v) = %+v, %+v", a, b, a2, b2)
		}
	}
}

func TestThroughExamples(t *testing.T) {
	line := ops(ins(0, 'p', 2), del(2, 2), del(1, 2))
	wantThrough(t, "P5.3: example 7", ins(2, 'x', 1), line, true, ins(1, 'x', 1), line)

	tie := ops(ins(0, 'y', 2), ins(1, 'z', 2))
	wantThrough(t, "P5.3: the line first", ins(0, 'x', 1), tie, true, ins(2, 'x', 1), tie)
	wantThrough(t, "P5.3: op first", ins(0, 'x', 1), tie, false, ins(0, 'x', 1), ops(ins(1, 'y', 2), ins(2, 'z', 2)))
	wantThrough(t, "P5.3: gone on the way", del(1, 1), ops(del(0, 2), del(0, 2), ins(0, 'q', 2)), true, nop(1), ops(del(0, 2), nop(2), ins(0, 'q', 2)))

	for _, first := range []bool{true, false} {
		wantThrough(t, "P5.3: no line", del(5, 1), nil, first, del(5, 1), nil)
		wantThrough(t, "P5.3: an empty line", del(5, 1), ops(), first, del(5, 1), nil)
		odd := api.Op{Kind: 9, Pos: -3, Ch: 1, Client: 99, Seq: -1}
		wantThrough(t, "P5.3: an odd op", odd, tie, first, odd, tie)
		wantThrough(t, "P5.3: an odd line", ins(0, 'x', 1), ops(odd, odd), first, ins(0, 'x', 1), ops(odd, odd))
	}
}

func TestThroughAndWeaveOfTooLongLines(t *testing.T) {
	long := slices.Repeat(ops(ins(0, 'x', 1)), api.MaxLog+1)
	for _, first := range []bool{true, false} {
		if op, line, e := ot.Through(ins(1, 'y', 2), long, first); e != api.ErrLine || op != (api.Op{}) || len(line) != 0 {
			t.Errorf("P5.3: Through of %d operations = %+v, %d operations, %d", len(long), op, len(line), e)
		}
	}
	for _, c := range [][2][]api.Op{{long, nil}, {nil, long}, {long, ops(nop(2))}, {ops(nop(2)), long}, {long, long}} {
		if as, bs, e := ot.Weave(c[0], c[1]); e != api.ErrLine || len(as) != 0 || len(bs) != 0 {
			t.Errorf("P5.4: Weave of %d and %d operations = %d, %d, error %d", len(c[0]), len(c[1]), len(as), len(bs), e)
		}
	}
}

func TestThroughAndWeaveOfTheLongestLines(t *testing.T) {
	xs := slices.Repeat(ops(ins(0, 'x', 1)), api.MaxLog)
	ys := slices.Repeat(ops(ins(0, 'y', 2)), api.MaxLog)
	pushed := slices.Repeat(ops(ins(api.MaxLog, 'y', 2)), api.MaxLog)
	wantThrough(t, "P5.3: the longest line", ins(0, 'y', 2), xs, true, ins(api.MaxLog, 'y', 2), xs)

	as, bs, e := ot.Weave(xs, ys)
	if e != api.OK || !slices.Equal(as, xs) || !slices.Equal(bs, pushed) {
		t.Errorf("P5.4: the longest lines: error %d, %d and %d operations", e, len(as), len(bs))
	}
	wantWeave(t, "P5.4: the longest and none", nil, ys, nil, ys)
	wantWeave(t, "P5.4: the longest and none", xs, nil, xs, nil)
}

func TestWeaveExamples(t *testing.T) {
	wantWeave(t, "P5.4: example 8", ops(ins(0, 'x', 1)), ops(ins(0, 'y', 2), ins(1, 'z', 2)), ops(ins(0, 'x', 1)), ops(ins(1, 'y', 2), ins(2, 'z', 2)))
	wantWeave(t, "P5.4: example 9", ops(del(0, 1), del(0, 1)), ops(del(1, 2)), ops(del(0, 1), nop(1)), ops(nop(2)))
	wantWeave(t, "P5.4: example 10", nil, ops(del(5, 2)), nil, ops(del(5, 2)))
	wantWeave(t, "P5.4: bs empty", ops(del(5, 1)), ops(), ops(del(5, 1)), nil)
	wantWeave(t, "P5.4: both empty", nil, nil, nil, nil)
	wantWeave(t, "P5.4: as comes first", ops(ins(0, 'x', 1), ins(1, 'w', 1)), ops(ins(0, 'y', 2)), ops(ins(0, 'x', 1), ins(1, 'w', 1)), ops(ins(2, 'y', 2)))
}
