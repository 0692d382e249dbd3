package branch_test

import (
	"slices"
	"testing"

	"jotter/api"
	"jotter/book"
	"jotter/diff"
	"jotter/doc"
)

// Where a character of the model's merged text comes from.
const (
	old = iota
	fresh
	apart
)

// mark is a character of the model's merged text.
type mark struct {
	elem api.Elem
	from int
}

// model is what comes of a branch, told without carrying anything past anything: each operation is done at the characters that it means. What the branch puts in stands directly left of the first character of the base that was right of it and that the head has still, or at the end: so all that the log put in there stands left of it.
type model struct {
	ops    []api.Op
	merged []mark
	lost   int
}

func modelOf(t *testing.T, x tale, base int, text string, client, first int) model {
	t.Helper()
	was := x.elems(t, base)
	line, e := diff.Between(doc.Text(was), text, 1, 1)
	if e != api.OK {
		t.Fatalf("diff.Between(%s, %s): %d", quote(doc.Text(was)), quote(text), e)
	}
	m := model{merged: headOf(t, x, base)}
	moved := 0 // how many more characters the text has than what of the base it stands for
	for _, op := range line {
		meant := op.Pos - moved
		switch op.Kind {
		case api.Insert:
			at := m.before(was[meant:])
			m.merged = slices.Insert(m.merged, at, mark{api.Elem{Ch: op.Ch}, apart})
			m.ops = append(m.ops, ins(at, op.Ch, client, first+len(m.ops)))
			moved++
		case api.Delete:
			moved--
			at := m.place(was[meant])
			if at < 0 {
				m.lost++
				continue
			}
			m.merged = slices.Delete(m.merged, at, at+1)
			m.ops = append(m.ops, del(at, client, first+len(m.ops)))
		}
	}
	return m
}

// headOf gives the head's characters: fresh, if the record that inserted them has a number above base.
func headOf(t *testing.T, x tale, base int) []mark {
	t.Helper()
	var list []mark
	for _, y := range x.elems(t, x.Revs()) {
		from := fresh
		for rev := 1; rev <= base; rev++ {
			if op, _ := x.log.Done(rev); op.Kind == api.Insert && op.Client == y.Client && op.Seq == y.Seq {
				from = old
			}
		}
		list = append(list, mark{y, from})
	}
	return list
}

// place tells where a character of the base stands, or -1.
func (m model) place(y api.Elem) int {
	return slices.IndexFunc(m.merged, func(z mark) bool { return z.from != apart && z.elem == y })
}

// before tells where the first of these stands that is there, or where the text ends.
func (m model) before(rest []api.Elem) int {
	for _, y := range rest {
		if at := m.place(y); at >= 0 {
			return at
		}
	}
	return len(m.merged)
}

func (m model) text() string {
	var text []byte
	for _, z := range m.merged {
		text = append(text, z.elem.Ch)
	}
	return string(text)
}

// clashes looks at every piece of the text.
func (m model) clashes() []api.Run {
	is := func(at, from int) bool { return at >= 0 && at < len(m.merged) && m.merged[at].from == from }
	var runs []api.Run
	for from := range m.merged {
		for to := from + 1; is(to-1, apart); to++ {
			whole := !is(from-1, apart) && !is(to, apart)
			if whole && (is(from-1, fresh) || is(to, fresh)) {
				runs = append(runs, run(from, to))
			}
		}
	}
	return runs
}

// wantModel ends the test unless all four answer what the model does.
func wantModel(t *testing.T, x tale, base int, text string, client, first int) model {
	t.Helper()
	m := modelOf(t, x, base, text, client, first)
	if len(m.ops) > 65-first {
		wantNoRebase(t, x.Past, base, text, client, first, api.ErrMaker)
	} else {
		wantRebase(t, x.Past, base, text, client, first, m.ops...)
	}
	wantMerge(t, x.Past, base, text, m.text())
	wantLost(t, x.Past, base, text, m.lost)
	wantClashes(t, x.Past, base, text, m.clashes()...)
	return m
}

// TestEveryShortLog: all logs of at most four records of two clients, their bases, and the short texts of characters of the log and another one. The logs of three and of four records are many: so of what there is of them, with each base and each text, every seventh and every 199th is looked at.
func TestEveryShortLog(t *testing.T) {
	texts := allTexts("abZ", 3)
	seen, cases := 0, 0
	var grow func(edits []api.Edit)
	grow = func(edits []api.Edit) {
		seen++
		x := told(t, edits...)
		for base := range x.Revs() + 1 {
			for _, text := range texts {
				if cases++; cases%[]int{1, 1, 1, 7, 199}[len(edits)] == 0 {
					wantModel(t, x, base, text, 1+cases%64, 1+cases%65)
				}
			}
		}
		if len(edits) == 4 {
			return
		}
		for client := 1; client <= 2; client++ {
			for _, next := range longer(edits, client) {
				grow(next)
			}
		}
	}
	grow(nil)
	if seen < 2000 {
		t.Fatalf("%d logs: they tell too little", seen)
	}
}

// longer gives the logs that that client's next edit can make of a log.
func longer(edits []api.Edit, client int) [][]api.Edit {
	seq := 1
	for _, e := range edits {
		if e.Op.Client == client {
			seq++
		}
	}
	var logs [][]api.Edit
	for tag := range len(edits) + 1 {
		for pos := range len(edits) + 1 {
			for _, op := range []api.Op{ins(pos, "abab"[len(edits)], client, seq), del(pos, client, seq)} {
				next := append(slices.Clone(edits), edit(tag, op))
				if _, _, err := book.Replay(next); err == nil {
					logs = append(logs, next)
				}
			}
		}
	}
	return logs
}

// TestModel: logs of few and of many clients, near to one another and far behind, that grow and that fade, of few letters and of many; texts near to their base and far from it.
func TestModel(t *testing.T) {
	r := dice(1)
	lost, clashed, made := 0, 0, 0
	for n := range 200 {
		letters := []string{"ab", "abcdefgh", "abcdefghijklmnopqrstuvwxyz ~"}[n%3]
		x := written(t, r, 1+r.IntN(8), 1+r.IntN(80), r.IntN(12), r.IntN(7), letters)
		for range 8 {
			base := r.IntN(x.Revs() + 1)
			text := altered(r, x.text(t, base), r.IntN(1+r.IntN(40)), letters)
			if d, _ := diff.Distance(x.text(t, base), text); d > api.MaxEdits {
				continue
			}
			m := wantModel(t, x, base, text, 1+r.IntN(64), 1+r.IntN(30))
			lost, clashed, made = lost+m.lost, clashed+len(m.clashes()), made+len(m.ops)
		}
	}
	if lost < 500 || clashed < 500 || made < 5000 {
		t.Fatalf("%d lost, %d clashes, %d operations: they tell too little", lost, clashed, made)
	}
}

// TestModelOfRevisions: the texts of a log stand for branches: each base, and what the text was at other times.
func TestModelOfRevisions(t *testing.T) {
	r := dice(2)
	for range 4 {
		x := written(t, r, 5, 50, 6, 4, "abc")
		for base := range x.Revs() + 1 {
			for rev := 0; rev <= x.Revs(); rev += 1 + r.IntN(4) {
				wantModel(t, x, base, x.text(t, rev), 1, 1)
			}
		}
	}
}
