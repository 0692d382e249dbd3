package diff_test

import (
	"slices"
	"strings"
	"sync"
	"testing"

	"jotter/api"
	"jotter/diff"
)

// TestAnswersAreNew: what is written into one list, or behind it, is seen in no other.
func TestAnswersAreNew(t *testing.T) {
	want := "d0(1,5) i0x(1,6) d2(1,7) i2z(1,8)"
	one, _ := diff.Between("abc", "xbz", 1, 5)
	two, _ := diff.Between("abc", "xbz", 1, 5)
	clear(one[:cap(one)])
	if listed(two) != want {
		t.Fatalf("P17.9: %s behind a change of another list, want %s", listed(two), want)
	}
	wantBetween(t, "abc", "xbz", 1, 5, want)
	_ = append(two[:1], api.Op{Kind: api.Insert, Pos: 9, Ch: '!', Client: 9, Seq: 9})
	wantBetween(t, "abc", "xbz", 1, 5, want)
	wantCommon(t, "abc", "xbz", "b")
}

// TestNothingIsKept: a call answers the same, whatever calls there were before it.
func TestNothingIsKept(t *testing.T) {
	long := strings.Repeat("ab", 256)
	for _, other := range []func(){
		func() { diff.Distance(long, long) },
		func() { diff.Between(long, long[1:], 64, 1) },
		func() { diff.Common(long, strings.Repeat("c", 512)) },
		func() { diff.Between("\n", "a", 0, 0) },
		func() { diff.Between("a", "b", 1, 64) },
		func() { diff.Distance(long+"a", "") },
	} {
		other()
		wantBetween(t, "abcabba", "cbabac", 1, 1, "d0(1,1) d0(1,2) d1(1,3) i2a(1,4) i5c(1,5)")
		wantDistance(t, "abcabba", "cbabac", 5)
		wantCommon(t, "abcabba", "cbabac", "cbba")
		wantDistance(t, "", "", 0)
	}
}

// TestSideBySide: calls that run at one time know nothing of each other.
func TestSideBySide(t *testing.T) {
	texts := []string{"", "abcabba", "cbabac", strings.Repeat("ab", 200), strings.Repeat("aab", 140)}
	far := distances(t, texts)
	same := make([]bool, 8*len(texts))
	var wg sync.WaitGroup
	for i := range same {
		wg.Go(func() {
			same[i] = true
			for n := range 40 {
				a, b := i%len(texts), n%len(texts)
				got, e := diff.Distance(texts[a], texts[b])
				common, f := diff.Common(texts[a], texts[b])
				same[i] = same[i] && e == api.OK && f == api.OK && got == far[a][b] && 2*len(common)+got == len(texts[a])+len(texts[b])
			}
		})
	}
	wg.Wait()
	if slices.Contains(same, false) {
		t.Fatal("P17.9: calls side by side have answered otherwise")
	}
}

// TestHugeTexts: texts far above the limit are refused by their lengths, ahead of any other work.
func TestHugeTexts(t *testing.T) {
	huge := strings.Repeat("a", 1<<26)
	for range 1000 {
		wantTextsRefused(t, huge, "a", api.ErrDiffLong)
		wantTextsRefused(t, huge, huge, api.ErrDiffLong)
	}
	wantTextsRefused(t, huge+"\n", "\n", api.ErrDiffLong)
}
