package diff_test

import (
	"math"
	"strconv"
	"strings"
	"testing"

	"jotter/api"
	"jotter/diff"
)

// TestExamples: the chapter's examples, in its order (the last two are those of TestLengths, TestCharacters, TestSeqs and TestNothingInCommon).
func TestExamples(t *testing.T) {
	wantBetween(t, "", "ab", 7, 1, "i0a(7,1) i1b(7,2)")
	wantBetween(t, "ab", "", 7, 1, "d0(7,1) d0(7,2)")
	wantBetween(t, "ab", "ab", 7, 65, "")
	wantSeqRefused(t, "ab", "ab", 7, 66)

	wantBetween(t, "cat", "cart", 1, 1, "i2r(1,1)")
	wantDistance(t, "cat", "cart", 1)
	wantCommon(t, "cat", "cart", "cat")

	wantBetween(t, "abc", "xbz", 1, 5, "d0(1,5) i0x(1,6) d2(1,7) i2z(1,8)")
	wantDistance(t, "abc", "xbz", 4)
	wantCommon(t, "abc", "xbz", "b")

	wantBetween(t, "ab", "ba", 1, 1, "d0(1,1) i1a(1,2)")
	wantCommon(t, "ab", "ba", "b")
	wantDistance(t, "ab", "ba", 2)
	wantBetween(t, "ba", "ab", 1, 1, "d0(1,1) i1b(1,2)")
	wantCommon(t, "ba", "ab", "a")

	wantBetween(t, "aab", "ab", 1, 1, "d1(1,1)")
	wantBetween(t, "ab", "aab", 1, 1, "i1a(1,1)")

	wantBetween(t, "abcabba", "cbabac", 1, 1, "d0(1,1) d0(1,2) d1(1,3) i2a(1,4) i5c(1,5)")
	wantDistance(t, "abcabba", "cbabac", 5)
	wantCommon(t, "abcabba", "cbabac", "cbba")
}

// TestEmptyTexts: where one text is at its end from the beginning, all of the other is put in, or taken out.
func TestEmptyTexts(t *testing.T) {
	wantBetween(t, "", "", 1, 1, "")
	wantDistance(t, "", "", 0)
	wantCommon(t, "", "", "")
	wantBetween(t, "", " ~", 64, 63, "i0 (64,63) i1~(64,64)")
	wantBetween(t, " ~", "", 64, 63, "d0(64,63) d0(64,64)")
	most := strings.Repeat("x", api.MaxDiff)
	wantDistance(t, "", most, api.MaxDiff)
	wantDistance(t, most, "", api.MaxDiff)
	wantCommon(t, "", most, "")
	wantCommon(t, most, "", "")
}

// TestLengths: bytes are counted, of both texts, and ahead of anything else that may be wrong.
func TestLengths(t *testing.T) {
	long := strings.Repeat("a", api.MaxDiff+1)
	wantDistance(t, long[1:], long[1:], 0)
	wantDistance(t, long[1:], "", api.MaxDiff)
	for _, other := range []string{"", "a", "\n", "\xff", long[1:], long, long + long} {
		wantTextsRefused(t, long, other, api.ErrDiffLong)
	}
	wantTextsRefused(t, long[1:]+"\n", "a", api.ErrDiffLong)
	wantTextsRefused(t, strings.Repeat("\xc3\xa9", 257), "a", api.ErrDiffLong)
	wantTextsRefused(t, strings.Repeat("\xc3\xa9", 256), "a", api.ErrDiffCh)
}

// TestCharacters: each byte, alone and at each end of both texts; then signs of several bytes, some of which have a low byte that may be.
func TestCharacters(t *testing.T) {
	for b := range 256 {
		c := string([]byte{byte(b)})
		for _, text := range []string{c, "ab" + c, c + "ab", "a" + c + "b", strings.Repeat("a", 511) + c} {
			if b < 32 || b > 126 {
				wantTextsRefused(t, text, "", api.ErrDiffCh)
				wantTextsRefused(t, text, "ab", api.ErrDiffCh)
				wantTextsRefused(t, text, text, api.ErrDiffCh)
				continue
			}
			wantDistance(t, text, text, 0)
			wantCommon(t, text, text, text)
			wantBetween(t, text, text, 1, 65, "")
		}
	}
	for _, text := range []string{"\u00e9", "\u0141", "\u2041", "\ufffd", "\U00010041", "\u0141A", "a\u0161b", "\xc3", "\xa9", "\xed\xa0\x80", "\xc1\x81", "\xf4\x90\x80\x80"} {
		wantTextsRefused(t, text, "A", api.ErrDiffCh)
		wantTextsRefused(t, text, text, api.ErrDiffCh)
	}
}

// TestEveryCharacter: each one that may be is put in as itself, and taken out without a name.
func TestEveryCharacter(t *testing.T) {
	for _, c := range every() {
		wantBetween(t, "", string(c), 3, 9, "i0"+string(c)+"(3,9)")
		wantBetween(t, string(c), "", 3, 9, "d0(3,9)")
	}
	wantCommon(t, every(), every(), every())
	wantDistance(t, every(), "", 95)
}

// TestClients: of 1 to 64, whatever the texts, and even where nothing is to be made.
func TestClients(t *testing.T) {
	for client := 1; client <= api.MaxClients; client++ {
		ops, e := diff.Between("a", "b", client, 1)
		if e != api.OK || len(ops) != 2 || ops[0].Client != client || ops[1].Client != client {
			t.Fatalf("P17.3: Between(a, b, %d, 1) = %s, %d", client, listed(ops), e)
		}
	}
	for _, client := range []int{0, 65, -1, 66, 257, 1 << 32, 1<<32 + 1, math.MinInt, math.MaxInt} {
		wantSeqRefused(t, "a", "b", client, 1)
		wantSeqRefused(t, "a", "a", client, 1)
		wantSeqRefused(t, "", "", client, 65)
	}
}

// TestSeqs: any number of operations at any first Seq: the last one's Seq is at most 64.
func TestSeqs(t *testing.T) {
	for n := range 68 {
		a, b := strings.Repeat("a", n/2), strings.Repeat("b", n-n/2)
		for first := -2; first <= 68; first++ {
			if first < 1 || first+n > api.MaxEdits+1 {
				wantSeqRefused(t, a, b, 1, first)
				continue
			}
			ops, e := diff.Between(a, b, 1, first)
			if e != api.OK || len(ops) != n {
				t.Fatalf("P17.1: Between of %d, from %d on: %d, %d", n, first, len(ops), e)
			}
			for i, op := range ops {
				if op.Seq != first+i {
					t.Fatalf("P17.3: Between of %d, from %d on: operation %d has Seq %d", n, first, i, op.Seq)
				}
			}
		}
	}
	for _, first := range []int{0, -1, 64, math.MinInt, math.MinInt + 1, math.MinInt + 65, math.MaxInt, math.MaxInt - 1, 1 << 32, 1<<32 + 1} {
		wantSeqRefused(t, "a", "b", 1, first)
	}
	for _, first := range []int{0, 66, math.MinInt, math.MaxInt} {
		wantSeqRefused(t, "a", "a", 1, first)
	}
	wantBetween(t, "a", "b", 1, 63, "d0(1,63) i0b(1,64)")
	wantSeqRefused(t, "a", "b", 0, 0)
	wantTextsRefused(t, "\n", "a", api.ErrDiffCh)
}

// TestNothingInCommon: the greatest distance there is.
func TestNothingInCommon(t *testing.T) {
	a, b := strings.Repeat("a", api.MaxDiff), strings.Repeat("b", api.MaxDiff)
	wantDistance(t, a, b, 2*api.MaxDiff)
	wantCommon(t, a, b, "")
	for first := range 70 {
		wantSeqRefused(t, a, b, 1, first)
	}
}

// TestLongTexts: changes at the ends and in the middle of the longest texts.
func TestLongTexts(t *testing.T) {
	a := strings.Repeat("ab", 256)
	wantBetween(t, a, a[1:]+"a", 1, 1, "d0(1,1) i511a(1,2)")
	wantBetween(t, a, a[:511], 1, 1, "d511(1,1)")
	wantBetween(t, a[:511], a, 1, 64, "i511b(1,64)")
	wantBetween(t, a, a[:300]+"x"+a[301:], 1, 1, "d300(1,1) i300x(1,2)")
	wantBetween(t, a, a[64:], 1, 1, times(64, "d448"))
	wantSeqRefused(t, a, a[65:], 1, 1)
	wantCommon(t, a, a[64:], a[64:])
	wantCommon(t, a, a[1:]+"a", a[1:])
	wantCommon(t, a, a, a)
}

// times gives the list of the same operation of client 1, with Seqs from 1 to n.
func times(n int, word string) string {
	var all []string
	for seq := 1; seq <= n; seq++ {
		all = append(all, word+"(1,"+strconv.Itoa(seq)+")")
	}
	return strings.Join(all, " ")
}
