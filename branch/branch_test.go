package branch_test

import (
	"math"
	"strings"
	"testing"

	"jotter/api"
	"jotter/branch"
)

// The chapter's examples 1 to 7, and what stands beside them.
func TestExamples(t *testing.T) {
	p := example(t).Past
	for _, c := range []struct {
		base   int
		text   string
		merged string
		lost   int
		runs   []api.Run
	}{
		{2, "ab", "bcx", 0, nil},
		{2, "aZb", "Zbcx", 0, nil},
		{2, "abZ", "bcxZ", 0, []api.Run{run(3, 4)}},
		{2, "b", "bcx", 1, nil},
		{2, "", "cx", 1, nil},
		{2, "a", "cx", 0, nil},
		{4, "bQRc", "bQRcx", 0, nil},
		{4, "bcQR", "bcxQR", 0, []api.Run{run(3, 5)}},
		{3, "QabcR", "QbcxR", 0, []api.Run{run(4, 5)}},
		{6, "hello", "hello", 0, nil},
		{0, "hi", "bcxhi", 0, []api.Run{run(3, 5)}},
		{0, "", "bcx", 0, nil},
		{1, "", "bcx", 1, nil},
		{1, "Z", "bcxZ", 1, []api.Run{run(3, 4)}},
		{1, "Za", "bcxZ", 0, []api.Run{run(3, 4)}},
		{3, "abZc", "bZcx", 0, nil},
		{3, "abcZ", "bcxZ", 0, []api.Run{run(3, 4)}},
	} {
		wantMerge(t, p, c.base, c.text, c.merged)
		wantLost(t, p, c.base, c.text, c.lost)
		wantClashes(t, p, c.base, c.text, c.runs...)
	}
}

func TestExampleRebases(t *testing.T) {
	p := example(t).Past
	wantRebase(t, p, 2, "ab", 1, 65)
	wantRebase(t, p, 2, "aZb", 5, 7, ins(0, 'Z', 5, 7))
	wantRebase(t, p, 2, "abZ", 64, 64, ins(3, 'Z', 64, 64))
	wantRebase(t, p, 2, "b", 1, 1)
	wantRebase(t, p, 2, "", 1, 4, del(0, 1, 4))
	wantRebase(t, p, 4, "bQRc", 2, 3, ins(1, 'Q', 2, 3), ins(2, 'R', 2, 4))
	wantRebase(t, p, 3, "QabcR", 1, 1, ins(0, 'Q', 1, 1), ins(4, 'R', 1, 2))
	wantRebase(t, p, 6, "hello", 9, 57, del(0, 9, 57), del(0, 9, 58), del(0, 9, 59),
		ins(0, 'h', 9, 60), ins(1, 'e', 9, 61), ins(2, 'l', 9, 62), ins(3, 'l', 9, 63), ins(4, 'o', 9, 64))
	wantRebase(t, p, 0, "hi", 3, 63, ins(3, 'h', 3, 63), ins(4, 'i', 3, 64))
}

// TestNewIsAheadOrBehind: runs that a new character touches at their left, at their right, at both sides, at none; several in one text.
func TestNewIsAheadOrBehind(t *testing.T) {
	// Revisions: "ab" at 2, "NabOP" at 5, "NbOP" at 6.
	x := told(t,
		edit(0, ins(0, 'a', 1, 1)), edit(1, ins(1, 'b', 1, 2)), edit(2, ins(0, 'N', 2, 1)),
		edit(3, ins(3, 'O', 2, 2)), edit(4, ins(4, 'P', 2, 3)), edit(5, del(1, 3, 1)))
	for _, c := range []struct {
		base   int
		text   string
		merged string
		runs   []api.Run
	}{
		{2, "Xab", "NXbOP", []api.Run{run(1, 2)}},
		{2, "aXb", "NXbOP", []api.Run{run(1, 2)}},
		{2, "abX", "NbOPX", []api.Run{run(4, 5)}},
		{2, "XYaZbVW", "NXYZbOPVW", []api.Run{run(1, 4), run(7, 9)}},
		{3, "NXab", "NXbOP", nil},
		{3, "XNab", "XNbOP", nil},
		{3, "NabX", "NbOPX", []api.Run{run(4, 5)}},
		{4, "NabXO", "NbXOP", nil},
		{4, "NaXO", "NXOP", nil},
		{4, "NabOX", "NbOPX", []api.Run{run(4, 5)}},
		{5, "XNYaZbVOWPU", "XNYZbVOWPU", nil},
		{2, "XY", "NOPXY", []api.Run{run(3, 5)}},
		{2, "bX", "NbOPX", []api.Run{run(4, 5)}},
		{2, "Xb", "NXbOP", []api.Run{run(1, 2)}},
		{2, "", "NOP", nil},
	} {
		wantMerge(t, x.Past, c.base, c.text, c.merged)
		wantClashes(t, x.Past, c.base, c.text, c.runs...)
	}
}

// TestNewBehindAlone: a run whose left neighbour is old, and whose right one is new.
func TestNewBehindAlone(t *testing.T) {
	// Revisions: "abc" at 3, "ac" at 4, "acN" at 5.
	x := told(t,
		edit(0, ins(0, 'a', 1, 1)), edit(1, ins(1, 'b', 1, 2)), edit(2, ins(2, 'c', 1, 3)),
		edit(3, del(1, 2, 1)), edit(4, ins(2, 'N', 2, 2)))
	wantMerge(t, x.Past, 3, "aXb", "aXN") // the branch takes c away itself: so X touches N at last
	wantClashes(t, x.Past, 3, "aXb", run(1, 2))
	wantLost(t, x.Past, 3, "aXb", 0)
	wantMerge(t, x.Past, 3, "aXbc", "aXcN")
	wantClashes(t, x.Past, 3, "aXbc")
	wantMerge(t, x.Past, 3, "aXc", "aXcN")
	wantLost(t, x.Past, 3, "aXc", 1)
	wantClashes(t, x.Past, 3, "aXc")
}

// TestLookAlikes: characters that look alike, and edits of the branch that have the names of the log's, are still apart.
func TestLookAlikes(t *testing.T) {
	x := told(t, edit(0, ins(0, 'a', 1, 1)), edit(1, ins(0, 'a', 1, 2)), edit(2, ins(2, 'a', 1, 3)), edit(3, del(0, 1, 4)))
	// Revisions: "a", "aa", "aaa", "aa": the second edit's 'a', that stood left, is gone at last.
	wantMerge(t, x.Past, 2, "a", "a") // each side has taken another one away, and one has come
	wantLost(t, x.Past, 2, "a", 0)
	wantRebase(t, x.Past, 2, "a", 1, 1, del(0, 1, 1)) // the second 'a' is the one that is taken out
	wantMerge(t, x.Past, 1, "aa", "aaa")
	wantClashes(t, x.Past, 1, "aa", run(2, 3))
	wantMerge(t, x.Past, 2, "", "a")
	wantLost(t, x.Past, 2, "", 1)
	wantMerge(t, x.Past, 0, "aaa", "aaaaa")
	wantClashes(t, x.Past, 0, "aaa", run(2, 5))
	wantRebase(t, x.Past, 0, "aaa", 1, 1, ins(2, 'a', 1, 1), ins(3, 'a', 1, 2), ins(4, 'a', 1, 3))
}

// TestBackInTime: P22.7, of each revision of the examples.
func TestBackInTime(t *testing.T) {
	x := example(t)
	for rev := range x.Revs() + 1 {
		wantMerge(t, x.Past, rev, x.text(t, rev), "bcx")
		wantRebase(t, x.Past, rev, x.text(t, rev), 1, 65)
		wantLost(t, x.Past, rev, x.text(t, rev), 0)
		wantClashes(t, x.Past, rev, x.text(t, rev))
	}
	for _, text := range []string{"", "b", "x", "bcx", "xcb", "abcxyz", "~ ~", strings.Repeat("bcx", 20)} {
		wantMerge(t, x.Past, 6, text, text)
		wantLost(t, x.Past, 6, text, 0)
		wantClashes(t, x.Past, 6, text)
	}
}

// TestNoRecords: of an empty log the one revision is 0.
func TestNoRecords(t *testing.T) {
	p := told(t).Past
	wantMerge(t, p, 0, "", "")
	wantMerge(t, p, 0, "hello", "hello")
	wantLost(t, p, 0, "hello", 0)
	wantClashes(t, p, 0, "hello")
	wantRebase(t, p, 0, "hi", 1, 1, ins(0, 'h', 1, 1), ins(1, 'i', 1, 2))
	wantRebase(t, p, 0, "", 64, 65)
	wantRefused(t, p, 1, "x", api.ErrBase)
	wantRefused(t, p, -1, "x", api.ErrBase)
}

// TestNoBase: P22.1, the first of all.
func TestNoBase(t *testing.T) {
	p := example(t).Past
	for _, base := range []int{-1, 7, 8, 4097, math.MinInt, math.MaxInt} {
		for _, text := range []string{"", "ab", "\n", strings.Repeat("a", 513)} {
			wantRefused(t, p, base, text, api.ErrBase)
			wantNoRebase(t, p, base, text, 0, 0, api.ErrBase)
			wantNoRebase(t, p, base, text, 1, 66, api.ErrBase)
		}
	}
}

// TestNoText: texts that cannot be compared with the base's.
func TestNoText(t *testing.T) {
	p := example(t).Past
	for _, text := range []string{
		"\n", "a\n", "a\x7f", "a\x1fb", "a\x00b", "\xff", "a\u00e9b", "ab\t", strings.Repeat("a", 513), strings.Repeat("\n", 513),
		"ab" + strings.Repeat("z", 65), strings.Repeat("z", 512), strings.Repeat("z", 63), // the last one takes a and b out besides
	} {
		wantRefused(t, p, 2, text, api.ErrSplit)
		wantNoRebase(t, p, 2, text, 0, 0, api.ErrSplit)
		wantNoRebase(t, p, 2, text, 1, 66, api.ErrSplit)
	}
	for _, text := range []string{"a b", "a~b", "ab" + strings.Repeat("z", 64), strings.Repeat("z", 62)} {
		if _, e := branch.Merge(p, 2, text); e != api.OK {
			t.Fatalf("P22.1: Merge(p, 2, %s): %d, want OK", quote(text), e)
		}
	}
	wantMerge(t, p, 0, strings.Repeat("z", 64), "bcx"+strings.Repeat("z", 64))
	wantRefused(t, p, 0, strings.Repeat("z", 65), api.ErrSplit)
}

// TestNoMaker: clients and Seqs that may not be, of Rebase alone.
func TestNoMaker(t *testing.T) {
	p := example(t).Past
	for _, client := range []int{0, -1, 65, 66, math.MinInt, math.MaxInt} {
		for _, text := range []string{"ab", "aZb", "b"} {
			for _, first := range []int{-1, 0, 1, 64, 65, 66} {
				wantNoRebase(t, p, 2, text, client, first, api.ErrMaker)
			}
		}
	}
	for _, c := range []struct {
		base int
		text string
		most int // the greatest first
	}{
		{2, "ab", 65}, {2, "b", 65}, {2, "a", 64}, {2, "", 64}, {2, "aZb", 64}, {2, "ZaYbX", 62}, {2, "Zb", 64},
		{0, strings.Repeat("z", 64), 1}, {0, strings.Repeat("z", 63), 2}, {6, "bcx", 65}, {6, "", 62},
	} {
		for _, client := range []int{1, 33, 64} {
			for _, first := range []int{1, c.most} {
				if ops, e := branch.Rebase(p, c.base, c.text, client, first); e != api.OK || len(ops) != 65-c.most {
					t.Fatalf("P22.1: Rebase(p, %d, %s, %d, %d): %s, %d, want %d operations", c.base, quote(c.text), client, first, opsWord(ops), e, 65-c.most)
				}
			}
			for _, first := range []int{0, -1, -64, c.most + 1, 67, 129, 1 << 62, math.MinInt, math.MaxInt} {
				wantNoRebase(t, p, c.base, c.text, client, first, api.ErrMaker)
			}
		}
	}
}
