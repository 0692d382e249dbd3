package ot_test

import (
	"slices"
	"testing"

	"jotter/api"
	"jotter/doc"
	"jotter/ot"
)

// meant tells a as it is behind b by what each of the two does to the elements of the text, not by their places: an insertion stands behind those of its left neighbours that are still there, a deletion looks for its element.
func meant(t *testing.T, d []api.Elem, a, b api.Op, first bool) api.Op {
	t.Helper()
	now := behind(t, d, b)
	switch a.Kind {
	case api.Insert:
		before := a.Pos
		a.Pos = 0
		for _, x := range d[:before] {
			if slices.Contains(now, x) {
				a.Pos++
			}
		}
		if b.Kind == api.Insert && (b.Pos < before || b.Pos == before && !first) {
			a.Pos++
		}
	case api.Delete:
		at := slices.Index(now, d[a.Pos])
		if at < 0 {
			return api.Op{Client: a.Client, Seq: a.Seq}
		}
		a.Pos = at
	}
	return a
}

func TestShiftIsWhatWasMeant(t *testing.T) {
	for n := range 6 {
		d := textOf(n)
		for _, a := range allOps(n, 'A', 1, 1) {
			for _, b := range allOps(n, 'B', 2, 1) {
				for _, first := range []bool{true, false} {
					wantShift(t, "P5.1, P5.6", a, b, first, meant(t, d, a, b, first))
				}
			}
		}
	}
}

// wantSquare fails the test unless both ways round the two operations end in one text, which it gives.
func wantSquare(t *testing.T, d []api.Elem, a, b api.Op) []api.Elem {
	t.Helper()
	a2, b2 := ot.Cross(a, b)
	one, other := behind(t, d, a, b2), behind(t, d, b, a2)
	if !doc.Equal(one, other) {
		t.Errorf("P5.5: %+v and %+v at %q: %q and %q", a, b, doc.Text(d), doc.Text(one), doc.Text(other))
	}
	return one
}

// wantWoven fails the test unless both ways round two lines end in one text.
func wantWoven(t *testing.T, d []api.Elem, as, bs []api.Op) {
	t.Helper()
	as2, bs2, e := ot.Weave(as, bs)
	if e != api.OK {
		t.Fatalf("P5.4: Weave(%+v, %+v): error %d", as, bs, e)
	}
	one, other := behind(t, behind(t, d, as...), bs2...), behind(t, behind(t, d, bs...), as2...)
	if !doc.Equal(one, other) {
		t.Errorf("P5.5: %+v and %+v at %q: %q and %q", as, bs, doc.Text(d), doc.Text(one), doc.Text(other))
	}
}

// wantMeant fails the test unless P5.6 holds of the text now, to which the two operations have come.
func wantMeant(t *testing.T, d, now []api.Elem, a, b api.Op) {
	t.Helper()
	gone := map[api.Elem]int{}
	for _, op := range ops(a, b) {
		if op.Kind == api.Delete {
			gone[d[op.Pos]] = 1
		}
	}
	for _, x := range d {
		if slices.Contains(now, x) == (gone[x] == 1) {
			t.Errorf("P5.6: %+v and %+v at %q: %q: element %+v", a, b, doc.Text(d), doc.Text(now), x)
		}
	}
	for _, op := range ops(a, b) {
		if op.Kind == api.Insert {
			wantBetween(t, d, now, op)
		}
	}
}

// wantBetween fails the test unless op's element stands in now between those that it stood between when it was made.
func wantBetween(t *testing.T, d, now []api.Elem, op api.Op) {
	t.Helper()
	at := slices.Index(now, api.Elem{Ch: op.Ch, Client: op.Client, Seq: op.Seq})
	if at < 0 {
		t.Errorf("P5.6: %+v has no element in %q", op, doc.Text(now))
	}
	for i, x := range d {
		if there := slices.Index(now, x); there >= 0 && (there < at) != (i < op.Pos) {
			t.Errorf("P5.6: %+v at %q: %q: element %+v", op, doc.Text(d), doc.Text(now), x)
		}
	}
}

func TestSquareOfAllPairs(t *testing.T) {
	for n := range 7 {
		d := textOf(n)
		for _, a := range allOps(n, 'A', 1, 1) {
			for _, b := range allOps(n, 'B', 2, 1) {
				wantMeant(t, d, wantSquare(t, d, a, b), a, b)
			}
		}
	}
}

// Texts that come to hold just MaxDoc elements, and full ones that nothing is put into, changed at their ends and in between.
func TestSquareOfLongTexts(t *testing.T) {
	for n := api.MaxDoc - 2; n <= api.MaxDoc; n++ {
		d := textOf(n)
		var as, bs []api.Op
		for _, pos := range []int{0, 1, 2000, n - 2, n - 1, n} {
			as, bs = append(as, ins(pos, 'A', 1)), append(bs, ins(pos, 'B', 2))
			if pos < n {
				as, bs = append(as, del(pos, 1)), append(bs, del(pos, 2))
			}
		}
		as, bs = append(as, nop(1)), append(bs, nop(2))
		for _, a := range as {
			for _, b := range bs {
				if n+max(grows(a), 0)+max(grows(b), 0) <= api.MaxDoc {
					wantSquare(t, d, a, b)
				}
			}
		}
	}
}

func TestSquareOfAllShortLines(t *testing.T) {
	for n, sizes := range [][2]int{{3, 3}, {3, 2}, {2, 2}} {
		d := textOf(n)
		for _, as := range allLines(n, sizes[0], 1) {
			for _, bs := range allLines(n, sizes[1], 2) {
				wantWoven(t, d, as, bs)
			}
		}
	}
}

func TestSquareOfRandomLines(t *testing.T) {
	for seed := range 150 {
		r := dice(seed)
		n := r.IntN(30)
		wantWoven(t, textOf(n), anyLine(r, n, 200, r.IntN(50), 1), anyLine(r, n, 200, r.IntN(50), 2))
	}
	r := dice(151)
	for range 5 {
		n := api.MaxDoc - 40
		wantWoven(t, textOf(n), anyLine(r, n, n+20, 60, 1), anyLine(r, n, n+20, 60, 2))
	}
}

// throughByRules is P5.3's table, line[i] against op(i).
func throughByRules(op api.Op, line []api.Op, first bool) (api.Op, []api.Op) {
	var out []api.Op
	for _, x := range line {
		out = append(out, shiftByRules(x, op, first))
		op = shiftByRules(op, x, !first)
	}
	return op, out
}

func TestRandomThrough(t *testing.T) {
	for seed := range 300 {
		r := dice(seed)
		op, line, first := oddOp(r), oddLine(r, r.IntN(12)), r.IntN(2) == 0
		op2, line2 := throughByRules(op, line, first)
		wantThrough(t, "P5.3", op, line, first, op2, line2)
	}
}

// Each operation of bs through as, as P5.4 says it; and the other way round, each of as through bs, which it says to be the same.
func TestRandomWeave(t *testing.T) {
	for seed := range 300 {
		r := dice(seed)
		as, bs := oddLine(r, r.IntN(12)), oddLine(r, r.IntN(12))
		byB, byA := [2][]api.Op{as, nil}, [2][]api.Op{nil, bs}
		for _, b := range bs {
			b2, line := throughByRules(b, byB[0], true)
			byB = [2][]api.Op{line, append(byB[1], b2)}
		}
		for _, a := range as {
			a2, line := throughByRules(a, byA[1], false)
			byA = [2][]api.Op{append(byA[0], a2), line}
		}
		wantWeave(t, "P5.4: bs through as", as, bs, byB[0], byB[1])
		wantWeave(t, "P5.4: as through bs", as, bs, byA[0], byA[1])
	}
}

// Spare room stands behind what is handed in: a call that grew into it would write there.
func TestLinesAreLeftAlone(t *testing.T) {
	r := dice(7)
	as, bs := anyLine(r, 5, 50, 8, 1), anyLine(r, 5, 50, 8, 2)
	for _, size := range []int{0, 1, 4, 8} {
		roomA, roomB := slices.Clone(as), slices.Clone(bs)
		_, line, _ := ot.Through(ins(2, 'x', 3), roomA[:size], true)
		as2, bs2, _ := ot.Weave(roomA[:size], roomB[:size])
		wantLine, wantAs, wantBs := slices.Clone(line), slices.Clone(as2), slices.Clone(bs2)

		clear(line[:cap(line)])
		if !slices.Equal(as2, wantAs) || !slices.Equal(bs2, wantBs) {
			t.Errorf("P5.7: two calls' answers share memory")
		}
		clear(as2[:cap(as2)])
		if !slices.Equal(bs2, wantBs) {
			t.Errorf("P5.7: two lists of one answer share memory")
		}
		clear(bs2[:cap(bs2)])
		if !slices.Equal(roomA, as) || !slices.Equal(roomB, bs) {
			t.Errorf("P5.7: what was handed in was changed: %+v, %+v", roomA, roomB)
		}
		_, again, _ := ot.Through(ins(2, 'x', 3), as[:size], true)
		if !slices.Equal(again, wantLine) {
			t.Errorf("P5.7: the second call answers otherwise: %+v, want %+v", again, wantLine)
		}
		wantWeave(t, "P5.7: the second call", as[:size], bs[:size], wantAs, wantBs)
	}
}

func TestAnswersAreNotChangedFromOutside(t *testing.T) {
	r := dice(8)
	as, bs := anyLine(r, 5, 50, 8, 1), anyLine(r, 5, 50, 8, 2)
	_, line, _ := ot.Through(ins(2, 'x', 3), as, true)
	as2, bs2, _ := ot.Weave(as, bs)
	wantLine, wantAs, wantBs := slices.Clone(line), slices.Clone(as2), slices.Clone(bs2)
	clear(as)
	clear(bs)
	if !slices.Equal(line, wantLine) || !slices.Equal(as2, wantAs) || !slices.Equal(bs2, wantBs) {
		t.Errorf("P5.7: an answer changed with its argument")
	}
}
