package revision_test

import (
	"slices"
	"sync"
	"testing"

	"jotter/api"
	"jotter/book"
	"jotter/disk"
	"jotter/doc"
	"jotter/revision"
)

// TestAnswersAreNew: what is written into a list, or behind it, is seen in no other answer.
func TestAnswersAreNew(t *testing.T) {
	p := example(t)
	before := see(p)
	ops, _ := p.Changes(2, 6)
	other, _ := p.Changes(2, 6)
	runs, _ := p.Blame(6)
	clear(ops[:cap(ops)])
	clear(runs[:cap(runs)])
	if !slices.Equal(other, []api.Op{del(0, 1, 1), ins(1, 'c', 1, 2), ins(2, 'x', 2, 3)}) {
		t.Fatalf("P18.9: %s behind a change of another list", opsWord(other))
	}
	_ = append(other[:1], nop(9, 9))
	if !see(p).same(before) {
		t.Fatal("P18.9: what is written into an answer is seen in later ones")
	}
}

// TestNothingIsKept: a call answers the same whatever was asked before it, of this past and of others.
func TestNothingIsKept(t *testing.T) {
	image := written(t, dice(10), 4, 40, 6, 4)
	p, want := opened(t, image), see(opened(t, image))
	r := dice(11)
	for range 60 {
		rev := r.IntN(60) - 10
		for _, ask := range []func(){
			func() { p.Text(rev) },
			func() { p.Blame(rev) },
			func() { p.Born(rev, r.IntN(50)-5) },
			func() { p.Died(rev) },
			func() { p.Changes(rev, r.IntN(60)-10) },
			func() { p.Tally(r.IntN(8)-1, rev) },
			func() { revision.Open(logOf(exampleEdits()...)) },
			func() { revision.Open([]byte{1, 2, 3}) },
		} {
			ask()
		}
	}
	if !see(p).same(want) || !see(opened(t, image)).same(want) {
		t.Fatal("P18.9: what was asked before is seen")
	}
}

// TestSideBySide: one past can be asked by many at one time, because its methods change nothing.
func TestSideBySide(t *testing.T) {
	image := written(t, dice(12), 4, 60, 6, 4)
	p := opened(t, image)
	want := see(p)
	same := make([]bool, 16)
	var wg sync.WaitGroup
	for i := range same {
		wg.Go(func() {
			same[i] = true
			for range 10 {
				own, err := revision.Open(image)
				same[i] = same[i] && err == nil && see(own).same(want) && see(p).same(want)
			}
		})
	}
	wg.Wait()
	if slices.Contains(same, false) {
		t.Fatal("P18.9: asked side by side it has answered otherwise")
	}
}

// greatest gives a log of all edits and all boots that there can be: the clients insert by turns, the k-th of all at the place that at tells, and the last few edits of each delete.
func greatest(t *testing.T, deletions int, at func(k, size int) int) []byte {
	t.Helper()
	d := disk.New()
	b, _ := book.Open(d)
	size := 0
	for k := range api.MaxLog {
		if k < api.MaxEpoch {
			b.Boot()
		}
		client, seq := k%api.MaxClients+1, k/api.MaxClients+1
		op := ins(at(k, size), byte(32+k%95), client, seq)
		if seq > api.MaxEdits-deletions {
			op = del(at(k, size-1), client, seq)
		}
		size += 3 - 2*op.Kind
		if _, _, e := b.Add(edit(k, op)); e != api.OK {
			t.Fatalf("book.Add of edit %d: %d", k, e)
		}
	}
	return d.Bytes()
}

func TestGreatestLogs(t *testing.T) {
	for _, c := range []struct {
		deletions int
		at        func(k, size int) int
	}{
		{0, func(k, size int) int { return 0 }},
		{0, func(k, size int) int { return size }},
		{32, func(k, size int) int { return k * 7919 % (size + 1) }},
	} {
		image := greatest(t, c.deletions, c.at)
		b, _ := bookOf(t, image)
		p := opened(t, image)
		if p.Revs() != api.MaxLog {
			t.Fatalf("P18.2: Revs = %d, want %d", p.Revs(), api.MaxLog)
		}
		wantModel(t, p, modelOf(t, b), []int{0, 1, 64, 2047, 2048, 2049, 4095, 4096})
		wantNoRevision(t, p, api.MaxLog+1)
		for rev := range p.Revs() + 1 {
			if rev%100 == 0 {
				want, _ := b.Doc(rev)
				wantText(t, p, rev, doc.Text(want))
			}
		}
	}
}
