package ot_test

import (
	"math/rand/v2"
	"slices"
	"testing"

	"jotter/api"
	"jotter/doc"
	"jotter/ot"
)

// ins, del and nop make operations of a client's edit; seq gives one to another edit of that client.
func ins(pos int, ch byte, client int) api.Op {
	return api.Op{Kind: api.Insert, Pos: pos, Ch: ch, Client: client, Seq: 1}
}

func del(pos int, client int) api.Op {
	return api.Op{Kind: api.Delete, Pos: pos, Client: client, Seq: 1}
}

func nop(client int) api.Op { return api.Op{Kind: api.Nop, Client: client, Seq: 1} }

func seq(op api.Op, seq int) api.Op {
	op.Seq = seq
	return op
}

func ops(list ...api.Op) []api.Op { return list }

// textOf gives n elements of client 9 and above, no two alike.
func textOf(n int) []api.Elem {
	d := make([]api.Elem, n)
	for i := range d {
		d[i] = api.Elem{Ch: byte('a' + i%26), Client: 9 + i/api.MaxEdits, Seq: 1 + i%api.MaxEdits}
	}
	return d
}

// allOps gives every operation that a client's edit can be at a text of n characters.
func allOps(n int, ch byte, client, edit int) []api.Op {
	all := ops(seq(nop(client), edit))
	for pos := range n + 1 {
		all = append(all, seq(ins(pos, ch, client), edit))
		if pos < n {
			all = append(all, seq(del(pos, client), edit))
		}
	}
	return all
}

// allLines gives every line of that many operations that a client can make at a text of n characters.
func allLines(n, length int, client int) [][]api.Op {
	if length == 0 {
		return [][]api.Op{nil}
	}
	var lines [][]api.Op
	for _, front := range allLines(n, length-1, client) {
		size := n
		for _, op := range front {
			size += grows(op)
		}
		for _, op := range allOps(size, byte('A'+client), client, length) {
			lines = append(lines, append(slices.Clone(front), op))
		}
	}
	return lines
}

// grows tells by how much an operation makes a text longer.
func grows(op api.Op) int {
	switch op.Kind {
	case api.Insert:
		return 1
	case api.Delete:
		return -1
	}
	return 0
}

// behind gives the text behind a line; it fails the test if one of the line does not fit.
func behind(t *testing.T, d []api.Elem, line ...api.Op) []api.Elem {
	t.Helper()
	for _, op := range line {
		next, e := doc.Apply(d, op)
		if e != api.OK {
			t.Fatalf("P5.5: %+v does not fit a text of %d elements: error %d", op, len(d), e)
		}
		d = next
	}
	return d
}

// wantShift fails the test unless Shift answers that operation.
func wantShift(t *testing.T, what string, a, b api.Op, first bool, want api.Op) {
	t.Helper()
	if got := ot.Shift(a, b, first); got != want {
		t.Errorf("%s: Shift(%+v, %+v, %v) = %+v, want %+v", what, a, b, first, got, want)
	}
}

// wantThrough fails the test unless Through answers that operation and that line.
func wantThrough(t *testing.T, what string, op api.Op, line []api.Op, first bool, op2 api.Op, line2 []api.Op) {
	t.Helper()
	gotOp, gotLine, e := ot.Through(op, line, first)
	if e != api.OK || gotOp != op2 || !slices.Equal(gotLine, line2) {
		t.Errorf("%s: Through(%+v, %+v, %v) = %+v, %+v, %d, want %+v, %+v", what, op, line, first, gotOp, gotLine, e, op2, line2)
	}
}

// wantWeave fails the test unless Weave answers these lines.
func wantWeave(t *testing.T, what string, as, bs, as2, bs2 []api.Op) {
	t.Helper()
	gotAs, gotBs, e := ot.Weave(as, bs)
	if e != api.OK || !slices.Equal(gotAs, as2) || !slices.Equal(gotBs, bs2) {
		t.Errorf("%s: Weave(%+v, %+v) = %+v, %+v, %d, want %+v, %+v", what, as, bs, gotAs, gotBs, e, as2, bs2)
	}
}

// dice gives numbers that look mixed, the same at every run.
func dice(seed int) *rand.Rand { return rand.New(rand.NewPCG(uint64(seed), 5)) }

// anyLine gives a line that a client could have made at a text of n characters; it ends where the text would come to hold more than most.
func anyLine(r *rand.Rand, n, most, length, client int) []api.Op {
	var line []api.Op
	for i := range length {
		op := api.Op{Client: client, Seq: 1 + i}
		switch k := r.IntN(8); {
		case k < 4 && n < most:
			op.Kind, op.Pos, op.Ch = api.Insert, r.IntN(n+1), byte(api.LeastCh+r.IntN(api.MostCh-api.LeastCh+1))
		case k < 7 && n > 0:
			op.Kind, op.Pos = api.Delete, r.IntN(n)
		}
		n += grows(op)
		line = append(line, op)
	}
	return line
}

// oddOp gives an operation whose fields may hold anything.
func oddOp(r *rand.Rand) api.Op {
	ends := []int{-1 << 63, -1<<63 + 1, -2, -1, 0, 1, 2, 3, api.MaxDoc, 1<<63 - 2, 1<<63 - 1}
	return api.Op{Kind: r.IntN(6) - 2, Pos: ends[r.IntN(len(ends))], Ch: byte(r.Uint32()), Client: ends[r.IntN(len(ends))], Seq: ends[r.IntN(len(ends))]}
}

func oddLine(r *rand.Rand, length int) []api.Op {
	line := make([]api.Op, length)
	for i := range line {
		line[i] = oddOp(r)
	}
	return line
}
