package doc_test

import (
	"math/rand/v2"
	"slices"
	"testing"

	"jotter/api"
	"jotter/doc"
)

// ins, del and nop make operations of the edit (1,1); by gives one to another edit.
func ins(pos int, ch byte) api.Op {
	return api.Op{Kind: api.Insert, Pos: pos, Ch: ch, Client: 1, Seq: 1}
}

func del(pos int) api.Op { return api.Op{Kind: api.Delete, Pos: pos, Client: 1, Seq: 1} }

func nop() api.Op { return api.Op{Kind: api.Nop, Client: 1, Seq: 1} }

func by(op api.Op, client, seq int) api.Op {
	op.Client, op.Seq = client, seq
	return op
}

func elem(ch byte, client, seq int) api.Elem { return api.Elem{Ch: ch, Client: client, Seq: seq} }

// textOf gives n elements that all differ, some of which no edit could have made.
func textOf(n int) []api.Elem {
	d := make([]api.Elem, n)
	for i := range d {
		d[i] = elem(byte(i), i-2, i/3)
	}
	return d
}

// wantErr fails the test unless a call answered that number.
func wantErr(t *testing.T, what string, got, want api.Errno) {
	t.Helper()
	if got != want {
		t.Errorf("%s = %d, want %d", what, got, want)
	}
}

// wantApplied fails the test unless the operation is taken and makes that text.
func wantApplied(t *testing.T, what string, d []api.Elem, op api.Op, want []api.Elem) {
	t.Helper()
	got, e := doc.Apply(d, op)
	if e != api.OK || !slices.Equal(got, want) {
		t.Errorf("%s: Apply(%d elements, %+v) = %v, %d, want %v", what, len(d), op, got, e, want)
	}
}

// wantRefused fails the test unless the operation is refused with that number, and nothing beside it.
func wantRefused(t *testing.T, what string, d []api.Elem, op api.Op, want api.Errno) {
	t.Helper()
	if got, e := doc.Apply(d, op); e != want || got != nil {
		t.Errorf("%s: Apply(%d elements, %+v) = %v, %d, want nil, %d", what, len(d), op, got, e, want)
	}
}

// wantReplayed fails the test unless Replay tells that text, number and error.
func wantReplayed(t *testing.T, what string, ops []api.Op, want []api.Elem, n int, e api.Errno) {
	t.Helper()
	got, count, err := doc.Replay(ops...)
	if !slices.Equal(got, want) || count != n || err != e {
		t.Errorf("%s: Replay = %v, %d, %d, want %v, %d, %d", what, got, count, err, want, n, e)
	}
}

// dice gives numbers that look mixed, the same at every run.
func dice(seed int) *rand.Rand { return rand.New(rand.NewPCG(uint64(seed), 4)) }

// anyOp gives an operation for a text of about n characters, now and then one that may not be.
func anyOp(r *rand.Rand, n int) api.Op {
	op := api.Op{Kind: 1 + r.IntN(2), Pos: r.IntN(n + 1), Client: 1 + r.IntN(api.MaxClients), Seq: 1 + r.IntN(api.MaxEdits)}
	if op.Kind == api.Insert {
		op.Ch = byte(api.LeastCh + r.IntN(api.MostCh-api.LeastCh+1))
	}
	switch r.IntN(20) {
	case 0:
		op.Kind, op.Pos, op.Ch = api.Nop, 0, 0
	case 1:
		op.Pos += 1 + r.IntN(3)
	case 2:
		op.Kind = r.IntN(5) - 1
	case 3:
		op.Ch = byte(r.Uint32())
	case 4:
		op.Seq *= r.IntN(3)
	}
	return op
}
