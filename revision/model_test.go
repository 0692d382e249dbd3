package revision_test

import (
	"slices"
	"testing"

	"jotter/api"
	"jotter/book"
	"jotter/doc"
	"jotter/revision"
)

// mark is a character of a text of the model, with the record that inserted it.
type mark struct {
	elem api.Elem
	born int
}

// model is a past as the chapter's words make it: each text is kept whole, nothing is looked up by elements.
type model struct {
	done  []api.Op
	texts [][]mark
	died  []int // of each record; the first is no record's
}

func modelOf(t *testing.T, b *book.Book) model {
	t.Helper()
	m := model{texts: [][]mark{nil}, died: []int{0}}
	for rev := 1; rev <= b.Revs(); rev++ {
		op, e := b.Done(rev)
		if e != api.OK {
			t.Fatalf("book.Done(%d): %d", rev, e)
		}
		text := slices.Clone(m.texts[rev-1])
		switch op.Kind {
		case api.Insert:
			text = slices.Insert(text, op.Pos, mark{api.Elem{Ch: op.Ch, Client: op.Client, Seq: op.Seq}, rev})
		case api.Delete:
			m.died[text[op.Pos].born] = rev
			text = slices.Delete(text, op.Pos, op.Pos+1)
		}
		m.done, m.texts, m.died = append(m.done, op), append(m.texts, text), append(m.died, 0)
	}
	return m
}

func (m model) elems(rev int) []api.Elem {
	var list []api.Elem
	for _, x := range m.texts[rev] {
		list = append(list, x.elem)
	}
	return list
}

// runs gives a run for each character, and then makes one of two neighbours as long as there are such.
func (m model) runs(rev int) []api.Run {
	var list []api.Run
	for at, x := range m.texts[rev] {
		list = append(list, api.Run{Client: x.elem.Client, From: at, To: at + 1})
	}
	for i := 1; i < len(list); {
		if list[i].Client != list[i-1].Client {
			i++
			continue
		}
		list[i-1].To = list[i].To
		list = slices.Delete(list, i, i+1)
	}
	return list
}

func (m model) changes(from, to int) []api.Op {
	var ops []api.Op
	for at := len(m.texts[from]) - 1; at >= 0; at-- {
		if x := m.texts[from][at]; !slices.Contains(m.texts[to], x) {
			ops = append(ops, del(at, x.elem.Client, x.elem.Seq))
		}
	}
	for at, x := range m.texts[to] {
		if !slices.Contains(m.texts[from], x) {
			ops = append(ops, ins(at, x.elem.Ch, x.elem.Client, x.elem.Seq))
		}
	}
	return ops
}

func (m model) tally(client, rev int) [3]int {
	var n [3]int
	for _, op := range m.done[:rev] {
		if op.Client == client && op.Kind == api.Insert {
			n[0]++
		}
		if op.Client == client && op.Kind == api.Delete {
			n[1]++
		}
	}
	for _, x := range m.texts[rev] {
		if x.elem.Client == client {
			n[2]++
		}
	}
	return n
}

// wantModel ends the test unless the past tells of each of those revisions what the model does.
func wantModel(t *testing.T, p *revision.Past, m model, revs []int) {
	t.Helper()
	if p.Revs() != len(m.done) {
		t.Fatalf("P18.2: Revs = %d, want %d", p.Revs(), len(m.done))
	}
	for _, rev := range revs {
		wantText(t, p, rev, doc.Text(m.elems(rev)))
		wantBlame(t, p, rev, m.runs(rev)...)
		step := 1 + len(m.texts[rev])/64
		for pos := 0; pos < len(m.texts[rev]); pos += step {
			wantBorn(t, p, rev, pos, m.texts[rev][pos].born, api.OK)
		}
		wantBorn(t, p, rev, -1, 0, api.ErrSpot)
		wantBorn(t, p, rev, len(m.texts[rev]), 0, api.ErrSpot)
		if rev > 0 {
			wantDied(t, p, rev, m.died[rev])
		}
		for client := -1; client <= api.MaxClients+1; client++ {
			wantTally(t, p, client, rev, m.tally(client, rev))
		}
		for _, to := range revs {
			wantChanges(t, p, rev, to, m.changes(rev, to)...)
		}
	}
}

// upTo gives 0 to n in equal steps, at most so many, n among them.
func upTo(n, most int) []int {
	var list []int
	for rev := 0; rev < n; rev += n/most + 1 {
		list = append(list, rev)
	}
	return append(list, n)
}

// TestModel: logs of few and of many clients, near to one another and far behind, that grow and that fade.
func TestModel(t *testing.T) {
	r := dice(1)
	kinds := map[int]int{}
	for n := range 60 {
		image := written(t, r, 1+r.IntN(1+n), 1+r.IntN(60), r.IntN(12), r.IntN(10))
		b, err := bookOf(t, image)
		if err != nil {
			t.Fatalf("book.Open: %v", err)
		}
		m := modelOf(t, b)
		for _, op := range m.done {
			kinds[op.Kind]++
		}
		wantModel(t, opened(t, image), m, upTo(b.Revs(), 60))
	}
	if kinds[api.Insert] < 300 || kinds[api.Delete] < 200 || kinds[api.Nop] < 40 {
		t.Fatalf("of each kind of records: %v: they tell too little", kinds)
	}
}

// TestEveryShortLog: all logs of at most four records of two clients.
func TestEveryShortLog(t *testing.T) {
	var logs [][]api.Edit
	var grow func(edits []api.Edit)
	grow = func(edits []api.Edit) {
		logs = append(logs, edits)
		if len(edits) == 4 {
			return
		}
		for client := 1; client <= 2; client++ {
			seq := 1
			for _, e := range edits {
				if e.Op.Client == client {
					seq++
				}
			}
			for tag := range len(edits) + 1 {
				for pos := range len(edits) + 1 {
					for _, op := range []api.Op{ins(pos, byte('a'+len(edits)), client, seq), del(pos, client, seq)} {
						next := append(slices.Clone(edits), edit(tag, op))
						if _, _, err := book.Replay(next); err == nil {
							grow(next)
						}
					}
				}
			}
		}
	}
	grow(nil)
	if len(logs) < 2000 {
		t.Fatalf("%d logs: they tell too little", len(logs))
	}
	for _, edits := range logs {
		image := logOf(edits...)
		b, err := bookOf(t, image)
		if err != nil {
			t.Fatalf("book.Open: %v", err)
		}
		p, m := opened(t, image), modelOf(t, b)
		for rev := range p.Revs() + 1 {
			wantText(t, p, rev, doc.Text(m.elems(rev)))
			wantBlame(t, p, rev, m.runs(rev)...)
			for pos, x := range m.texts[rev] {
				wantBorn(t, p, rev, pos, x.born, api.OK)
			}
			if rev > 0 {
				wantDied(t, p, rev, m.died[rev])
			}
			for to := range p.Revs() + 1 {
				wantChanges(t, p, rev, to, m.changes(rev, to)...)
			}
			for client := 1; client <= 2; client++ {
				wantTally(t, p, client, rev, m.tally(client, rev))
			}
		}
	}
}
