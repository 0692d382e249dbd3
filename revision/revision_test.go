package revision_test

import (
	"bytes"
	"math"
	"testing"

	"jotter/api"
	"jotter/book"
	"jotter/disk"
	"jotter/revision"
)

// TestExampleLog: the bytes that the tests lay are those that a book lays.
func TestExampleLog(t *testing.T) {
	d := disk.New()
	b, err := book.Open(d)
	if err != nil {
		t.Fatal(err)
	}
	b.Boot()
	done := []api.Op{ins(0, 'a', 1, 1), ins(1, 'b', 2, 1), ins(2, 'c', 1, 2), del(0, 2, 2), nop(1, 3), ins(2, 'x', 2, 3)}
	for i, e := range exampleEdits() {
		if rev, op, bad := b.Add(e); rev != i+1 || op != done[i] || bad != api.OK {
			t.Fatalf("Add(%v) = %d, %v, %d", e, rev, op, bad)
		}
	}
	if !bytes.Equal(d.Bytes(), logOf(exampleEdits()...)) {
		t.Fatalf("the disk has % x, want % x", d.Bytes(), logOf(exampleEdits()...))
	}
}

// The chapter's examples 1 to 6.
func TestExampleTexts(t *testing.T) {
	p := example(t)
	for rev, want := range []string{"", "a", "ab", "abc", "bc", "bc", "bcx"} {
		wantText(t, p, rev, want)
	}
}

func TestExampleBlame(t *testing.T) {
	p := example(t)
	wantBlame(t, p, 0)
	wantBlame(t, p, 1, api.Run{Client: 1, From: 0, To: 1})
	wantBlame(t, p, 3, api.Run{Client: 1, From: 0, To: 1}, api.Run{Client: 2, From: 1, To: 2}, api.Run{Client: 1, From: 2, To: 3})
	wantBlame(t, p, 4, api.Run{Client: 2, From: 0, To: 1}, api.Run{Client: 1, From: 1, To: 2})
	wantBlame(t, p, 5, api.Run{Client: 2, From: 0, To: 1}, api.Run{Client: 1, From: 1, To: 2})
	wantBlame(t, p, 6, api.Run{Client: 2, From: 0, To: 1}, api.Run{Client: 1, From: 1, To: 2}, api.Run{Client: 2, From: 2, To: 3})
}

func TestExampleBorn(t *testing.T) {
	p := example(t)
	for _, c := range [][3]int{{1, 0, 1}, {2, 0, 1}, {2, 1, 2}, {3, 0, 1}, {3, 1, 2}, {3, 2, 3}, {4, 0, 2}, {4, 1, 3}, {5, 0, 2}, {6, 0, 2}, {6, 1, 3}, {6, 2, 6}} {
		wantBorn(t, p, c[0], c[1], c[2], api.OK)
	}
	for _, c := range [][2]int{{6, 3}, {0, 0}, {6, -1}, {0, -1}, {1, 1}, {4, 2}, {6, math.MaxInt}, {6, math.MinInt}} {
		wantBorn(t, p, c[0], c[1], 0, api.ErrSpot)
	}
	wantBorn(t, p, 9, 9, 0, api.ErrPast)
	wantBorn(t, p, 7, 0, 0, api.ErrPast)
	wantBorn(t, p, -1, -1, 0, api.ErrPast)
}

func TestExampleDied(t *testing.T) {
	p := example(t)
	for rev, want := range []int{4, 0, 0, 0, 0, 0} {
		wantDied(t, p, rev+1, want)
	}
}

func TestExampleChanges(t *testing.T) {
	p := example(t)
	wantChanges(t, p, 2, 6, del(0, 1, 1), ins(1, 'c', 1, 2), ins(2, 'x', 2, 3))
	wantChanges(t, p, 6, 2, del(2, 2, 3), del(1, 1, 2), ins(0, 'a', 1, 1))
	wantChanges(t, p, 4, 5)
	wantChanges(t, p, 5, 4)
	wantChanges(t, p, 6, 6)
	wantChanges(t, p, 0, 3, ins(0, 'a', 1, 1), ins(1, 'b', 2, 1), ins(2, 'c', 1, 2))
	wantChanges(t, p, 3, 0, del(2, 1, 2), del(1, 2, 1), del(0, 1, 1))
	wantChanges(t, p, 3, 4, del(0, 1, 1))
	wantChanges(t, p, 4, 3, ins(0, 'a', 1, 1))
}

func TestExampleTally(t *testing.T) {
	p := example(t)
	wantTally(t, p, 1, 6, [3]int{2, 0, 1})
	wantTally(t, p, 2, 6, [3]int{2, 1, 2})
	wantTally(t, p, 1, 2, [3]int{1, 0, 1})
	wantTally(t, p, 1, 3, [3]int{2, 0, 2})
	wantTally(t, p, 2, 3, [3]int{1, 0, 1})
	wantTally(t, p, 2, 4, [3]int{1, 1, 1})
	for _, client := range []int{3, 64, 0, -1, 65, 99, math.MaxInt, math.MinInt} {
		for rev := range 7 {
			wantTally(t, p, client, rev, [3]int{})
		}
	}
	wantTally(t, p, 1, 0, [3]int{})
}

// TestNoSuchRevision: below 0, and above Revs, nothing is told; 0 and Revs themselves are revisions.
func TestNoSuchRevision(t *testing.T) {
	for revs := range 7 {
		p := opened(t, logOf(exampleEdits()[:revs]...))
		if p.Revs() != revs {
			t.Fatalf("P18.2: Revs = %d, want %d", p.Revs(), revs)
		}
		for _, rev := range []int{-1, -2, -4096, math.MinInt, revs + 1, revs + 2, 4096, 4097, 1 << 32, math.MaxInt} {
			wantNoRevision(t, p, rev)
		}
		wantNotDied(t, p, 0)
		wantText(t, p, 0, "")
		if s, e := p.Text(revs); e != api.OK {
			t.Fatalf("P18.3: Text(%d) = %q, %d, want OK", revs, s, e)
		}
		wantChanges(t, p, 0, 0)
		wantChanges(t, p, revs, revs)
	}
}

// TestBackAsTheyWere: elements that were taken away come back with their own client and Seq, not with those of who took them away.
func TestBackAsTheyWere(t *testing.T) {
	p := opened(t, logOf(
		edit(0, ins(0, 'h', 3, 1)), edit(1, ins(1, 'o', 3, 2)), edit(2, ins(2, 'p', 4, 1)),
		edit(3, del(1, 9, 1)), edit(4, del(1, 9, 2)), edit(5, del(0, 4, 2)), edit(6, ins(0, 'o', 9, 3)),
	))
	for rev, want := range []string{"", "h", "ho", "hop", "hp", "h", "", "o"} {
		wantText(t, p, rev, want)
	}
	wantChanges(t, p, 3, 7, del(2, 4, 1), del(1, 3, 2), del(0, 3, 1), ins(0, 'o', 9, 3))
	wantChanges(t, p, 7, 3, del(0, 9, 3), ins(0, 'h', 3, 1), ins(1, 'o', 3, 2), ins(2, 'p', 4, 1))
	wantChanges(t, p, 4, 2, del(1, 4, 1), ins(1, 'o', 3, 2))
	wantChanges(t, p, 2, 4, del(1, 3, 2), ins(1, 'p', 4, 1))
	for rev, want := range []int{6, 4, 5, 0, 0, 0, 0} {
		wantDied(t, p, rev+1, want)
	}
	wantTally(t, p, 9, 7, [3]int{1, 2, 1})
	wantTally(t, p, 3, 7, [3]int{2, 0, 0})
	wantTally(t, p, 4, 7, [3]int{1, 1, 0})
	wantTally(t, p, 9, 4, [3]int{0, 1, 0})
}

// TestDeletedTwice: of two deletions of one element the first takes it away, the second is the Nop and takes none; a deletion by its own maker counts as any other.
func TestDeletedTwice(t *testing.T) {
	p := opened(t, logOf(edit(0, ins(0, 'a', 1, 1)), edit(1, del(0, 2, 1)), edit(1, del(0, 1, 2)), edit(1, del(0, 3, 1))))
	wantDied(t, p, 1, 2)
	for rev := 2; rev <= 4; rev++ {
		wantDied(t, p, rev, 0)
		wantText(t, p, rev, "")
		wantTally(t, p, 2, rev, [3]int{0, 1, 0})
		wantTally(t, p, 1, rev, [3]int{1, 0, 0})
		wantTally(t, p, 3, rev, [3]int{})
	}
	p = opened(t, logOf(edit(0, ins(0, 'a', 1, 1)), edit(1, del(0, 1, 2)), edit(1, del(0, 2, 1))))
	wantDied(t, p, 1, 2)
	wantTally(t, p, 1, 3, [3]int{1, 1, 0})
	wantTally(t, p, 2, 3, [3]int{})
}

// TestLongRuns: a run goes over all that one client wrote side by side, also where a stranger's character between has gone.
func TestLongRuns(t *testing.T) {
	var edits []api.Edit
	for i := range 5 {
		edits = append(edits, edit(i, ins(i, byte('a'+i), 7, i+1)))
	}
	edits = append(edits, edit(5, ins(2, '-', 8, 1)), edit(6, del(2, 9, 1)), edit(7, ins(5, '!', 8, 2)))
	p := opened(t, logOf(edits...))
	wantBlame(t, p, 5, api.Run{Client: 7, From: 0, To: 5})
	wantBlame(t, p, 6, api.Run{Client: 7, From: 0, To: 2}, api.Run{Client: 8, From: 2, To: 3}, api.Run{Client: 7, From: 3, To: 6})
	wantBlame(t, p, 7, api.Run{Client: 7, From: 0, To: 5})
	wantBlame(t, p, 8, api.Run{Client: 7, From: 0, To: 5}, api.Run{Client: 8, From: 5, To: 6})
}

// TestLikeCharacters: elements that look alike are told apart by who made them, and as which edit.
func TestLikeCharacters(t *testing.T) {
	p := opened(t, logOf(edit(0, ins(0, 'a', 1, 1)), edit(0, ins(0, 'a', 2, 1)), edit(2, ins(1, 'a', 1, 2)), edit(3, del(0, 2, 2)), edit(4, ins(0, 'a', 2, 3))))
	wantText(t, p, 5, "aaa")
	for pos, want := range []int{5, 3, 2} {
		wantBorn(t, p, 5, pos, want, api.OK)
	}
	wantDied(t, p, 1, 4)
	wantChanges(t, p, 3, 5, del(0, 1, 1), ins(0, 'a', 2, 3))
	wantChanges(t, p, 5, 3, del(0, 2, 3), ins(0, 'a', 1, 1))
	wantBlame(t, p, 5, api.Run{Client: 2, From: 0, To: 1}, api.Run{Client: 1, From: 1, To: 2}, api.Run{Client: 2, From: 2, To: 3})
}

// TestAmongTheGone: what is put in where elements were taken away stands where its record says, and they come back where they stood.
func TestAmongTheGone(t *testing.T) {
	p := opened(t, logOf(
		edit(0, ins(0, 'a', 1, 1)), edit(1, ins(1, 'b', 1, 2)), edit(2, ins(2, 'c', 1, 3)), edit(3, ins(3, 'd', 1, 4)),
		edit(4, del(1, 2, 1)), edit(5, del(1, 2, 2)), edit(6, ins(1, 'x', 3, 1)), edit(7, ins(1, 'y', 3, 2)), edit(8, ins(0, 'z', 3, 3)), edit(9, del(2, 3, 4)), edit(10, ins(2, 'w', 3, 5)),
	))
	for rev, want := range []string{"", "a", "ab", "abc", "abcd", "acd", "ad", "axd", "ayxd", "zayxd", "zaxd", "zawxd"} {
		wantText(t, p, rev, want)
	}
	wantChanges(t, p, 11, 4, del(3, 3, 1), del(2, 3, 5), del(0, 3, 3), ins(1, 'b', 1, 2), ins(2, 'c', 1, 3))
	wantChanges(t, p, 4, 11, del(2, 1, 3), del(1, 1, 2), ins(0, 'z', 3, 3), ins(2, 'w', 3, 5), ins(3, 'x', 3, 1))
	wantChanges(t, p, 11, 9, del(2, 3, 5), ins(2, 'y', 3, 2))
}

// TestNoBytes: a disk without a byte has a past of one revision, the empty text; one with boots alone too.
func TestNoBytes(t *testing.T) {
	for _, image := range [][]byte{nil, {}, logOf(), imageOf(bootOf(1), bootOf(2), bootOf(3))} {
		p, err := revision.Open(image)
		wantError(t, "no record", err, nil)
		if p == nil || p.Revs() != 0 {
			t.Fatalf("P18.2: no record: %v", p)
		}
		wantText(t, p, 0, "")
		wantBlame(t, p, 0)
		wantBorn(t, p, 0, 0, 0, api.ErrSpot)
		wantNotDied(t, p, 0)
		wantChanges(t, p, 0, 0)
		wantTally(t, p, 1, 0, [3]int{})
		wantNoRevision(t, p, 1)
	}
}
