package doc_test

import (
	"math"
	"slices"
	"strings"
	"testing"

	"jotter/api"
	"jotter/doc"
)

func TestValidExamples(t *testing.T) {
	for _, c := range []struct {
		op   api.Op
		want api.Errno
	}{
		{ins(0, 'x'), api.OK},
		{api.Op{Kind: 3, Client: 0}, api.ErrOpKind},
		{api.Op{Kind: -1}, api.ErrOpKind},
		{by(ins(0, 'x'), 0, 1), api.ErrWho},
		{by(ins(0, 'x'), 65, 1), api.ErrWho},
		{by(ins(0, 'x'), 1, 0), api.ErrWho},
		{by(ins(0, 'x'), 1, 65), api.ErrWho},
		{ins(0, 31), api.ErrCh},
		{ins(0, 127), api.ErrCh},
		{ins(0, 0), api.ErrCh},
		{ins(-1, 31), api.ErrCh},
		{ins(-1, 127), api.ErrCh},
		{ins(-1, 0), api.ErrCh},
		{api.Op{Kind: api.Delete, Ch: 'x', Client: 1, Seq: 1}, api.ErrCh},
		{api.Op{Kind: api.Nop, Ch: 32, Client: 1, Seq: 1}, api.ErrCh},
		{ins(-1, 'x'), api.ErrPos},
		{ins(4096, 'x'), api.ErrPos},
		{del(-1), api.ErrPos},
		{del(4096), api.ErrPos},
		{api.Op{Kind: api.Nop, Pos: 1, Client: 1, Seq: 1}, api.ErrPos},
		{by(ins(4095, 'x'), 64, 64), api.OK},
		{del(4095), api.OK},
		{nop(), api.OK},
	} {
		if e := doc.Valid(c.op); e != c.want {
			t.Errorf("P4.1: Valid(%+v) = %d, want %d", c.op, e, c.want)
		}
	}
}

// validByRules finds the first rule of P4.1 that applies, one after the other.
func validByRules(op api.Op) api.Errno {
	known := map[int]bool{0: true, 1: true, 2: true}
	rules := []struct {
		broken bool
		e      api.Errno
	}{
		{!known[op.Kind], api.ErrOpKind},
		{op.Client < 1, api.ErrWho},
		{op.Client > 64, api.ErrWho},
		{op.Seq < 1, api.ErrWho},
		{op.Seq > 64, api.ErrWho},
		{op.Kind == 1 && op.Ch < ' ', api.ErrCh},
		{op.Kind == 1 && op.Ch > '~', api.ErrCh},
		{op.Kind == 2 && op.Ch != 0, api.ErrCh},
		{op.Kind == 0 && op.Ch != 0, api.ErrCh},
		{op.Pos < 0, api.ErrPos},
		{op.Kind == 0 && op.Pos > 0, api.ErrPos},
		{op.Pos > 4095, api.ErrPos},
	}
	for _, r := range rules {
		if r.broken {
			return r.e
		}
	}
	return api.OK
}

// Every field of an operation, at and around its limits and at the ends of its type, with every other.
func everyOp(yield func(op api.Op) bool) {
	numbers := []int{math.MinInt, -1, 0, 1, 2, 63, 64, 65, math.MaxInt}
	for _, kind := range []int{math.MinInt, -1, 0, 1, 2, 3, math.MaxInt} {
		for _, client := range numbers {
			for _, seq := range numbers {
				for _, ch := range []byte{0, 1, 31, 32, 33, 'x', 125, 126, 127, 128, 255} {
					for _, pos := range []int{math.MinInt, -1, 0, 1, 2, 4094, 4095, 4096, 4097, math.MaxInt} {
						if !yield(api.Op{Kind: kind, Pos: pos, Ch: ch, Client: client, Seq: seq}) {
							return
						}
					}
				}
			}
		}
	}
}

func TestValidNamesTheFirstRule(t *testing.T) {
	for op := range everyOp {
		if e, want := doc.Valid(op), validByRules(op); e != want {
			t.Fatalf("P4.1: Valid(%+v) = %d, want %d", op, e, want)
		}
	}
}

func TestValidEveryCharacter(t *testing.T) {
	for ch := range 256 {
		for kind := range 3 {
			op := api.Op{Kind: kind, Ch: byte(ch), Client: 1, Seq: 1}
			if e, want := doc.Valid(op), validByRules(op); e != want {
				t.Errorf("P4.1: Valid(%+v) = %d, want %d", op, e, want)
			}
		}
	}
}

func TestFitsExamples(t *testing.T) {
	for _, c := range []struct {
		n    int
		op   api.Op
		want api.Errno
	}{
		{0, ins(0, 'x'), api.OK},
		{0, ins(1, 'x'), api.ErrPos},
		{0, del(0), api.ErrPos},
		{0, nop(), api.OK},
		{4096, ins(0, 'x'), api.ErrFull},
		{4096, ins(4096, 'x'), api.ErrPos},
		{4095, ins(4095, 'x'), api.OK},
		{4096, del(4095), api.OK},
		{-1, nop(), api.ErrFull},
		{4097, del(0), api.ErrFull},
		{-1, api.Op{Kind: 9}, api.ErrOpKind},
	} {
		if e := doc.Fits(c.n, c.op); e != c.want {
			t.Errorf("P4.2: Fits(%d, %+v) = %d, want %d", c.n, c.op, e, c.want)
		}
	}
}

// fitsByRules is P4.2 as a list of cases, over the operation's kind.
func fitsByRules(n int, op api.Op) api.Errno {
	if e := validByRules(op); e != api.OK {
		return e
	}
	if n < 0 || n > 4096 {
		return api.ErrFull
	}
	switch op.Kind {
	case 1:
		if n == 4096 {
			return api.ErrFull
		}
		if op.Pos > n {
			return api.ErrPos
		}
	case 2:
		if op.Pos >= n {
			return api.ErrPos
		}
	}
	return api.OK
}

func TestFitsNamesTheFirstRule(t *testing.T) {
	for op := range everyOp {
		for _, n := range []int{math.MinInt, -1, 0, 1, 2, 3, 4094, 4095, 4096, 4097, math.MaxInt} {
			if e, want := doc.Fits(n, op), fitsByRules(n, op); e != want {
				t.Fatalf("P4.2: Fits(%d, %+v) = %d, want %d", n, op, e, want)
			}
		}
	}
}

func TestApplyExamples(t *testing.T) {
	a, b, c := elem('a', 1, 1), elem('b', 2, 1), elem('c', 1, 2)
	wantApplied(t, "P4.3", nil, by(ins(0, 'a'), 1, 1), []api.Elem{a})
	wantApplied(t, "P4.3", []api.Elem{}, by(ins(0, 'a'), 1, 1), []api.Elem{a})
	wantApplied(t, "P4.3", []api.Elem{a}, by(ins(0, 'b'), 2, 1), []api.Elem{b, a})
	wantApplied(t, "P4.3", []api.Elem{b, a}, by(ins(1, 'c'), 1, 2), []api.Elem{b, c, a})
	wantApplied(t, "P4.3", []api.Elem{b, c, a}, by(del(0), 2, 2), []api.Elem{c, a})
	wantRefused(t, "P4.3", []api.Elem{c, a}, by(del(2), 1, 3), api.ErrPos)
	wantApplied(t, "P4.3", []api.Elem{c, a}, by(nop(), 1, 3), []api.Elem{c, a})
}

func TestApplyDoesNotLookAtElements(t *testing.T) {
	twice := []api.Elem{elem(0, 1, 1), elem(0, 1, 1), elem(200, -7, 999)}
	wantApplied(t, "P4.3", twice, nop(), twice)
	wantApplied(t, "P4.3", twice, ins(1, 'x'), []api.Elem{twice[0], elem('x', 1, 1), twice[1], twice[2]})
	wantApplied(t, "P4.3", twice, del(2), twice[:2])
}

func TestApplyAtTheLimit(t *testing.T) {
	full := textOf(api.MaxDoc)
	wantApplied(t, "P4.3", full, nop(), full)
	wantApplied(t, "P4.3", full, del(4095), full[:4095])
	wantApplied(t, "P4.3", full, del(0), full[1:])
	wantApplied(t, "P4.3", full[:4095], ins(4095, 'z'), append(textOf(4095), elem('z', 1, 1)))
	wantRefused(t, "P4.3", full, ins(0, 'z'), api.ErrFull)
	wantRefused(t, "P4.3", full, ins(4096, 'z'), api.ErrPos)
	wantRefused(t, "P4.3", textOf(api.MaxDoc+1), nop(), api.ErrFull)
	wantRefused(t, "P4.3", textOf(api.MaxDoc+1), del(0), api.ErrFull)
	wantRefused(t, "P4.3", textOf(api.MaxDoc+1), api.Op{Kind: 9}, api.ErrOpKind)
}

func TestApplyRefusesWhatDoesNotFit(t *testing.T) {
	d := textOf(3)
	for op := range everyOp {
		want := fitsByRules(len(d), op)
		if got, e := doc.Apply(d, op); e != want || e != api.OK && got != nil {
			t.Fatalf("P4.3: Apply(3 elements, %+v) = %v, %d, want %d", op, got, e, want)
		}
	}
}

// Every place of every short text: those that stay are the same, in their order.
func TestApplyKeepsTheOrder(t *testing.T) {
	for n := range 12 {
		d := textOf(n)
		for p := range n + 1 {
			op := by(ins(p, '+'), 7, 9)
			got, e := doc.Apply(d, op)
			if e != api.OK || len(got) != n+1 || got[p] != elem('+', 7, 9) {
				t.Fatalf("P4.8: Apply(%v, %+v) = %v, %d", d, op, got, e)
			}
			if !slices.Equal(got[:p], d[:p]) || !slices.Equal(got[p+1:], d[p:]) {
				t.Errorf("P4.8: Apply(%v, %+v) = %v: others moved", d, op, got)
			}
		}
		for p := range n {
			got, e := doc.Apply(d, del(p))
			if e != api.OK || len(got) != n-1 || !slices.Equal(got[:p], d[:p]) || !slices.Equal(got[p:], d[p+1:]) {
				t.Errorf("P4.8: Apply(%v, d%d) = %v, %d", d, p, got, e)
			}
		}
		wantApplied(t, "P4.8", d, nop(), d)
	}
}

func TestReplayExamples(t *testing.T) {
	a := elem('a', 1, 1)
	wantReplayed(t, "P4.4", []api.Op{ins(0, 'a'), ins(1, 'b'), ins(2, 'c'), del(1)}, []api.Elem{a, elem('c', 1, 1)}, 4, api.OK)
	wantReplayed(t, "P4.4", []api.Op{ins(0, 'a'), del(1), ins(0, 'b')}, []api.Elem{a}, 1, api.ErrPos)
	wantReplayed(t, "P4.4", nil, nil, 0, api.OK)
	wantReplayed(t, "P4.4", []api.Op{del(0)}, nil, 0, api.ErrPos)
	wantReplayed(t, "P4.4", []api.Op{ins(0, 'a'), {Kind: 7}}, []api.Elem{a}, 1, api.ErrOpKind)
}

func TestReplayCountsNops(t *testing.T) {
	wantReplayed(t, "P4.4", []api.Op{nop(), ins(0, 'a'), nop()}, []api.Elem{elem('a', 1, 1)}, 3, api.OK)
	wantReplayed(t, "P4.4", []api.Op{ins(0, 'a'), del(0)}, nil, 2, api.OK)
}

func TestReplayEndsAtTheFullText(t *testing.T) {
	var ops []api.Op
	var want []api.Elem
	for i := range api.MaxDoc {
		op := by(ins(i/2, byte(32+i%95)), 1+i/64, 1+i%64)
		ops = append(ops, op)
		want = slices.Insert(want, op.Pos, elem(op.Ch, op.Client, op.Seq))
	}
	wantReplayed(t, "P4.4", ops, want, api.MaxDoc, api.OK)
	wantReplayed(t, "P4.4", append(ops, ins(0, 'x'), del(0)), want, api.MaxDoc, api.ErrFull)
	wantReplayed(t, "P4.4", append(ops, nop(), del(4095)), want[:4095], api.MaxDoc+2, api.OK)
}

func TestText(t *testing.T) {
	var every []api.Elem
	var want strings.Builder
	for ch := range 256 {
		every = append(every, elem(byte(ch), ch, -ch))
		want.WriteByte(byte(ch))
	}
	for _, c := range []struct {
		d    []api.Elem
		want string
	}{
		{nil, ""},
		{[]api.Elem{}, ""},
		{[]api.Elem{elem('c', 1, 2), elem('a', 1, 1), elem('c', 1, 2)}, "cac"},
		{every, want.String()},
	} {
		if got := doc.Text(c.d); got != c.want {
			t.Errorf("P4.5: Text(%v) = %q, want %q", c.d, got, c.want)
		}
	}
}

func TestFind(t *testing.T) {
	d := []api.Elem{elem('c', 1, 2), elem('a', 1, 1), elem('x', 1, 2), elem(0, -3, math.MaxInt), elem(9, 2, 2)}
	for _, c := range []struct{ client, seq, want int }{
		{1, 2, 0}, {1, 1, 1}, {2, 1, -1}, {0, 0, -1}, {2, 2, 4}, {-3, math.MaxInt, 3}, {-3, 1, -1}, {1, math.MaxInt, -1},
	} {
		if got := doc.Find(d, c.client, c.seq); got != c.want {
			t.Errorf("P4.6: Find(%d, %d) = %d, want %d", c.client, c.seq, got, c.want)
		}
	}
	if got := doc.Find(nil, 0, 0); got != -1 {
		t.Errorf("P4.6: Find in the empty text = %d, want -1", got)
	}
}

func TestEqual(t *testing.T) {
	a := elem('a', 1, 1)
	for _, c := range []struct {
		a, b []api.Elem
		want bool
	}{
		{nil, []api.Elem{}, true},
		{nil, nil, true},
		{[]api.Elem{a}, []api.Elem{a}, true},
		{[]api.Elem{a}, []api.Elem{elem('a', 1, 2)}, false},
		{[]api.Elem{a}, []api.Elem{elem('a', 2, 1)}, false},
		{[]api.Elem{a}, []api.Elem{elem('b', 1, 1)}, false},
		{[]api.Elem{a}, []api.Elem{a, elem('b', 1, 2)}, false},
		{[]api.Elem{a}, nil, false},
		{[]api.Elem{a, elem('b', 1, 2)}, []api.Elem{elem('b', 1, 2), a}, false},
		{textOf(4096), textOf(4096), true},
		{textOf(4096), append(textOf(4095), a), false},
		{textOf(4097), append(textOf(4096), elem(0, 4094, 1365)), true},
	} {
		if got := doc.Equal(c.a, c.b); got != c.want {
			t.Errorf("P4.7: Equal of %d and %d elements = %v, want %v", len(c.a), len(c.b), got, c.want)
		}
		if got := doc.Equal(c.b, c.a); got != c.want {
			t.Errorf("P4.7: Equal of %d and %d elements = %v, want %v", len(c.b), len(c.a), got, c.want)
		}
	}
}
