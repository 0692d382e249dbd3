package branch_test

import (
	"slices"
	"testing"

	"jotter/api"
	"jotter/branch"
	"jotter/diff"
	"jotter/doc"
	"jotter/ot"
)

// home is a branch that comes back: its log, its base, its text.
type home struct {
	tale
	base int
	text string
}

// mixedHomes gives branches of mixed logs, each of which Merge takes. No log has an edit of client 64: so elements of that client are the branch's own.
func mixedHomes(t *testing.T, seed int) []home {
	t.Helper()
	r := dice(seed)
	var all []home
	for n := range 120 {
		letters := []string{"ab", "abcdefgh"}[n%2]
		x := written(t, r, 1+r.IntN(6), 1+r.IntN(60), r.IntN(10), r.IntN(8), letters)
		for range 3 {
			base := r.IntN(x.Revs() + 1)
			text := altered(r, x.text(t, base), r.IntN(30), letters)
			if d, _ := diff.Distance(x.text(t, base), text); d <= api.MaxEdits {
				all = append(all, home{x, base, text})
			}
		}
	}
	if len(all) < 300 {
		t.Fatalf("%d branches: they tell too little", len(all))
	}
	return all
}

// rebase gives what Rebase answers for client 64.
func (h home) rebase(t *testing.T) []api.Op {
	t.Helper()
	ops, e := branch.Rebase(h.Past, h.base, h.text, 64, 1)
	if e != api.OK {
		t.Fatalf("P22.1: Rebase(p, %d, %s, 64, 1): %d", h.base, quote(h.text), e)
	}
	return ops
}

// ownLine gives what turns the base's text into the branch's.
func (h home) ownLine(t *testing.T) []api.Op {
	t.Helper()
	line, e := diff.Between(h.tale.text(t, h.base), h.text, 64, 1)
	if e != api.OK {
		t.Fatalf("diff.Between: %d", e)
	}
	return line
}

// applied gives a text behind operations, all of which must fit. Insertions get Seqs by their number among them, so that those of the own line and those of the carried line are the same elements.
func applied(t *testing.T, text []api.Elem, ops []api.Op) []api.Elem {
	t.Helper()
	put := 0
	for i, op := range ops {
		if e := doc.Fits(len(text), op); e != api.OK {
			t.Fatalf("P22.2: operation %d of %s does not fit %s: %d", i, opsWord(ops), quote(doc.Text(text)), e)
		}
		if op.Kind == api.Insert {
			put++
			op.Seq = put
		}
		text, _ = doc.Apply(text, op)
	}
	return text
}

// TestAsWordsSayIt: the four answers, as the chapter's section 'Words' puts them together from the layers below.
func TestAsWordsSayIt(t *testing.T) {
	for _, h := range mixedHomes(t, 3) {
		own, _ := diff.Between(h.tale.text(t, h.base), h.text, 1, 1)
		came, _ := h.Changes(h.base, h.Revs())
		_, line, e := ot.Weave(came, own)
		if e != api.OK || len(line) != len(own) {
			t.Fatalf("ot.Weave: %d operations of %d, %d", len(line), len(own), e)
		}
		var ops []api.Op
		for _, op := range line {
			if op.Kind != api.Nop {
				op.Client, op.Seq = 5, 1+len(ops)
				ops = append(ops, op)
			}
		}
		wantRebase(t, h.Past, h.base, h.text, 5, 1, ops...)
		wantLost(t, h.Past, h.base, h.text, len(line)-len(ops))
		wantMerge(t, h.Past, h.base, h.text, doc.Text(applied(t, h.elems(t, h.Revs()), ops)))
	}
}

// TestRebaseGivesTheMergedText: P22.2, and the other way round: the branch's text behind what the log changed, carried past the branch.
func TestRebaseGivesTheMergedText(t *testing.T) {
	for _, h := range mixedHomes(t, 4) {
		ops := h.rebase(t)
		for i, op := range ops {
			if op.Client != 64 || op.Seq != 1+i || op.Kind == api.Nop {
				t.Fatalf("P22.2: Rebase(p, %d, %s, 64, 1) = %s", h.base, quote(h.text), opsWord(ops))
			}
		}
		merged := doc.Text(applied(t, h.elems(t, h.Revs()), ops))
		wantMerge(t, h.Past, h.base, h.text, merged)
		came, _ := h.Changes(h.base, h.Revs())
		behind, _, _ := ot.Weave(came, h.ownLine(t))
		text := applied(t, h.elems(t, h.base), h.ownLine(t))
		for _, op := range behind {
			text, _ = doc.Apply(text, op)
		}
		if doc.Text(text) != merged {
			t.Fatalf("P22.3: Merge(p, %d, %s) = %s; the other way round: %s", h.base, quote(h.text), quote(merged), quote(doc.Text(text)))
		}
	}
}

// TestLostAreTakenByBoth: P22.4: what is lost is what both sides took away of the base.
func TestLostAreTakenByBoth(t *testing.T) {
	for _, h := range mixedHomes(t, 5) {
		head, mine := h.elems(t, h.Revs()), applied(t, h.elems(t, h.base), h.ownLine(t))
		both := 0
		for _, y := range h.elems(t, h.base) {
			if !slices.Contains(head, y) && !slices.Contains(mine, y) {
				both++
			}
		}
		wantLost(t, h.Past, h.base, h.text, both)
	}
}

// TestNothingElseIsLost: P22.6.
func TestNothingElseIsLost(t *testing.T) {
	for _, h := range mixedHomes(t, 6) {
		was, head := h.elems(t, h.base), h.elems(t, h.Revs())
		mine, merged := applied(t, was, h.ownLine(t)), applied(t, head, h.rebase(t))
		in := func(text []api.Elem) func(api.Elem) bool {
			return func(y api.Elem) bool { return slices.Contains(text, y) }
		}
		for _, y := range slices.Concat(was, head, mine, merged) {
			want := in(head)(y) && in(mine)(y) || !in(was)(y)
			if in(merged)(y) != want {
				t.Fatalf("P22.6: base %s, head %s, text %s, merged %s: %v stands there: %t, want %t",
					quote(doc.Text(was)), quote(doc.Text(head)), quote(h.text), quote(doc.Text(merged)), y, !want, want)
			}
		}
		for _, side := range [][]api.Elem{head, mine} {
			if !slices.Equal(only(merged, in(side)), only(side, in(merged))) {
				t.Fatalf("P22.6: head %s, text %s, merged %s: the order is another", quote(doc.Text(head)), quote(h.text), quote(doc.Text(merged)))
			}
		}
		if len(merged) != len(only(merged, in(head)))+len(only(merged, func(y api.Elem) bool { return y.Client == 64 })) {
			t.Fatalf("P22.6: merged %s holds what no side has", quote(doc.Text(merged)))
		}
	}
}

// only gives the elements of a text for which something holds.
func only(text []api.Elem, holds func(api.Elem) bool) []api.Elem {
	var list []api.Elem
	for _, y := range text {
		if holds(y) {
			list = append(list, y)
		}
	}
	return list
}

// torn gives branches of a text whose characters are all unlike, of which both sides take many away and put some in: so neighbours of the branch's characters go, and others come next to them.
func torn(t *testing.T, seed int) []home {
	t.Helper()
	r := dice(seed)
	var all []home
	for range 300 {
		var edits []api.Edit
		add := func(op api.Op) { edits = append(edits, edit(len(edits), op)) }
		const letters = "abcdefghij"
		for at := range len(letters) {
			add(ins(at, letters[at], 1, 1+at))
		}
		size := len(letters)
		for seq := 1; seq <= 10; seq++ {
			if r.IntN(3) > 0 && size > 0 {
				add(del(r.IntN(size), 2, seq))
				size--
			} else {
				add(ins(r.IntN(size+1), '#', 2, seq))
				size++
			}
		}
		all = append(all, home{told(t, edits...), len(letters), altered(r, letters, 12, "XYZ")})
	}
	return all
}

// TestClashesTouchNewOnes: P22.5, character by character, by Born.
func TestClashesTouchNewOnes(t *testing.T) {
	kinds := map[[2]bool]int{} // of all runs: is it new ahead of them, is it new behind them
	for _, h := range append(mixedHomes(t, 7), torn(t, 13)...) {
		head := h.elems(t, h.Revs())
		merged := applied(t, head, h.rebase(t))
		isNew := func(at int) bool {
			if at < 0 || at >= len(merged) || merged[at].Client == 64 {
				return false
			}
			rev, e := h.Born(h.Revs(), slices.Index(head, merged[at]))
			return e == api.OK && rev > h.base
		}
		var want []api.Run
		for from := 0; from < len(merged); from++ {
			if merged[from].Client != 64 {
				continue
			}
			to := from
			for to < len(merged) && merged[to].Client == 64 {
				to++
			}
			kinds[[2]bool{isNew(from - 1), isNew(to)}]++
			if isNew(from-1) || isNew(to) {
				want = append(want, run(from, to))
			}
			from = to
		}
		wantClashes(t, h.Past, h.base, h.text, want...)
	}
	for _, kind := range [][2]bool{{false, false}, {true, false}, {false, true}, {true, true}} {
		if kinds[kind] < 10 {
			t.Fatalf("of each kind of runs: %v: they tell too little", kinds)
		}
	}
}

// TestWhoComesBackInTime: P22.7, of mixed logs.
func TestWhoComesBackInTime(t *testing.T) {
	r := dice(8)
	for _, h := range mixedHomes(t, 9) {
		head := h.tale.text(t, h.Revs())
		text := altered(r, head, r.IntN(40), "abcdefgh ~")
		wantMerge(t, h.Past, h.Revs(), text, text)
		wantLost(t, h.Past, h.Revs(), text, 0)
		wantClashes(t, h.Past, h.Revs(), text)
		own, _ := diff.Between(head, text, 7, 1)
		wantRebase(t, h.Past, h.Revs(), text, 7, 1, own...)
		was := h.tale.text(t, h.base)
		wantMerge(t, h.Past, h.base, was, head)
		wantRebase(t, h.Past, h.base, was, 64, 65)
		wantLost(t, h.Past, h.base, was, 0)
		wantClashes(t, h.Past, h.base, was)
	}
}
