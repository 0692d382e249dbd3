package doc_test

import (
	"slices"
	"testing"

	"jotter/api"
	"jotter/doc"
)

// afterwards tells the text behind an operation that fits by one walk over the places of the new text, as P4.3 says it.
func afterwards(d []api.Elem, op api.Op) []api.Elem {
	var out []api.Elem
	for i := range len(d) + 1 {
		if op.Kind == api.Insert && i == op.Pos {
			out = append(out, api.Elem{Ch: op.Ch, Client: op.Client, Seq: op.Seq})
		}
		if i < len(d) && !(op.Kind == api.Delete && i == op.Pos) {
			out = append(out, d[i])
		}
	}
	return out
}

func TestRandomOperations(t *testing.T) {
	for seed := range 60 {
		r := dice(seed)
		var model []api.Elem
		var taken []api.Op
		for range 150 {
			op := anyOp(r, len(model))
			want := fitsByRules(len(model), op)
			wantErr(t, "P4.2: Fits", doc.Fits(len(model), op), want)
			if want != api.OK {
				wantRefused(t, "P4.3", model, op, want)
				wantReplayed(t, "P4.4", append(slices.Clone(taken), op, ins(0, 'x')), model, len(taken), want)
				continue
			}
			next := afterwards(model, op)
			wantApplied(t, "P4.3", model, op, next)
			model, taken = next, append(taken, op)
		}
		wantReplayed(t, "P4.4", taken, model, len(taken), api.OK)
	}
}

// Spare room stands behind the text that is handed in: an Insert that grew into it would write there.
func TestApplyLeavesItsArgument(t *testing.T) {
	for _, op := range []api.Op{nop(), ins(0, 'x'), ins(1, 'x'), ins(2, 'x'), del(0), del(1), ins(3, 'x'), {Kind: 9}} {
		room := textOf(5)
		first, e := doc.Apply(room[:2], op)
		if !slices.Equal(room, textOf(5)) {
			t.Fatalf("P4.3, P4.9: Apply(%+v) wrote into its argument: %v", op, room)
		}
		if e != api.OK {
			continue
		}
		want := slices.Clone(first)
		clear(first[:cap(first)])
		if !slices.Equal(room, textOf(5)) {
			t.Errorf("P4.3: the answer of Apply(%+v) shares memory with its argument: %v", op, room)
		}
		wantApplied(t, "P4.9: again", room[:2], op, want)
	}
}

func TestApplyKeepsNothing(t *testing.T) {
	d := textOf(4)
	got, _ := doc.Apply(d, ins(2, 'x'))
	want := slices.Clone(got)
	clear(d)
	if !slices.Equal(got, want) {
		t.Errorf("P4.9: the answer of Apply changed with its argument: %v", got)
	}
}

func TestReplayLeavesItsArgument(t *testing.T) {
	ops := []api.Op{ins(0, 'a'), ins(1, 'b'), del(0), ins(0, 'c'), del(9)}
	before := slices.Clone(ops)
	first, _, _ := doc.Replay(ops...)
	want := slices.Clone(first)
	clear(first[:cap(first)])
	if !slices.Equal(ops, before) {
		t.Errorf("P4.9: Replay changed its operations: %v", ops)
	}
	wantReplayed(t, "P4.9: again", ops, want, 4, api.ErrPos)
}

func TestLooksLeaveTheirArguments(t *testing.T) {
	d, other := textOf(6), textOf(6)
	doc.Text(d)
	doc.Find(d, 1, 1)
	doc.Equal(d, other)
	if !slices.Equal(d, textOf(6)) || !slices.Equal(other, textOf(6)) {
		t.Errorf("P4.9: a look changed a text")
	}
}

// Every Nop over a full text is counted, however many there are.
func TestReplayOfManyOperations(t *testing.T) {
	var ops []api.Op
	for i := range api.MaxDoc {
		ops = append(ops, ins(i, 'x'))
	}
	for range 400000 {
		ops = append(ops, nop())
	}
	if d, n, e := doc.Replay(ops...); len(d) != api.MaxDoc || n != len(ops) || e != api.OK {
		t.Errorf("P4.4: Replay = %d elements, %d, %d", len(d), n, e)
	}
}
