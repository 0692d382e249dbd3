package diff_test

import (
	"math/rand/v2"
	"slices"
	"strconv"
	"strings"
	"testing"

	"jotter/api"
	"jotter/diff"
)

// dice gives numbers that look mixed, the same at every run.
func dice(seed int) *rand.Rand { return rand.New(rand.NewPCG(uint64(seed), 17)) }

// mixed gives a text of n of those letters.
func mixed(r *rand.Rand, n int, letters string) string {
	text := make([]byte, n)
	for i := range text {
		text[i] = letters[r.IntN(len(letters))]
	}
	return string(text)
}

// altered gives a text that has come from another one by that many changes of a character each, no longer than the limit.
func altered(r *rand.Rand, text string, times int, letters string) string {
	list := []byte(text)
	for range times {
		if n := len(list); n > 0 && (r.IntN(2) == 0 || n == api.MaxDiff) {
			at := r.IntN(n)
			list = slices.Delete(list, at, at+1)
		} else {
			list = slices.Insert(list, r.IntN(n+1), letters[r.IntN(len(letters))])
		}
	}
	return string(list)
}

// allTexts gives every text of those letters with at most n characters.
func allTexts(letters string, n int) []string {
	all := []string{""}
	last := all
	for range n {
		var next []string
		for _, text := range last {
			for _, c := range letters {
				next = append(next, text+string(c))
			}
		}
		all = append(all, next...)
		last = next
	}
	return all
}

// every gives all the characters that a text may have.
func every() string {
	var all []byte
	for c := 32; c <= 126; c++ {
		all = append(all, byte(c))
	}
	return string(all)
}

// listed gives operations as a list of one line: the chapter's words, and behind each its client and Seq.
func listed(ops []api.Op) string {
	var all []string
	for _, op := range ops {
		word := "?" + strconv.Itoa(op.Kind) + " " + strconv.Itoa(op.Pos) + " " + strconv.Itoa(int(op.Ch))
		if op.Kind == api.Insert {
			word = "i" + strconv.Itoa(op.Pos) + string(rune(op.Ch))
		} else if op.Kind == api.Delete && op.Ch == 0 {
			word = "d" + strconv.Itoa(op.Pos)
		}
		all = append(all, word+"("+strconv.Itoa(op.Client)+","+strconv.Itoa(op.Seq)+")")
	}
	return strings.Join(all, " ")
}

// quote tells a text, and keeps what a failed test tells readable.
func quote(s string) string {
	if len(s) > 120 {
		return strconv.Quote(s[:120]) + ".. (" + strconv.Itoa(len(s)) + ")"
	}
	return strconv.Quote(s)
}

func wantBetween(t *testing.T, a, b string, client, first int, want string) {
	t.Helper()
	if ops, e := diff.Between(a, b, client, first); e != api.OK || listed(ops) != want {
		t.Fatalf("P17.3: Between(%s, %s, %d, %d) = %s, %d, want %s", quote(a), quote(b), client, first, listed(ops), e, want)
	}
}

func wantDistance(t *testing.T, a, b string, want int) {
	t.Helper()
	if n, e := diff.Distance(a, b); e != api.OK || n != want {
		t.Fatalf("P17.4: Distance(%s, %s) = %d, %d, want %d", quote(a), quote(b), n, e, want)
	}
}

func wantCommon(t *testing.T, a, b, want string) {
	t.Helper()
	if s, e := diff.Common(a, b); e != api.OK || s != want {
		t.Fatalf("P17.5: Common(%s, %s) = %s, %d, want %s", quote(a), quote(b), quote(s), e, quote(want))
	}
}

// wantSeqRefused ends the test unless Between, and it alone, refuses.
func wantSeqRefused(t *testing.T, a, b string, client, first int) {
	t.Helper()
	if ops, e := diff.Between(a, b, client, first); e != api.ErrDiffSeq || len(ops) != 0 {
		t.Fatalf("P17.1: Between(%s, %s, %d, %d) = %s, %d, want nothing, %d", quote(a), quote(b), client, first, listed(ops), e, api.ErrDiffSeq)
	}
}

// wantTextsRefused ends the test unless all three calls refuse two texts, in both orders, whatever stands beside them.
func wantTextsRefused(t *testing.T, a, b string, want api.Errno) {
	t.Helper()
	for _, p := range [][2]string{{a, b}, {b, a}} {
		if n, e := diff.Distance(p[0], p[1]); e != want || n != 0 {
			t.Fatalf("P17.1: Distance(%s, %s) = %d, %d, want 0, %d", quote(p[0]), quote(p[1]), n, e, want)
		}
		if s, e := diff.Common(p[0], p[1]); e != want || s != "" {
			t.Fatalf("P17.1: Common(%s, %s) = %s, %d, want nothing, %d", quote(p[0]), quote(p[1]), quote(s), e, want)
		}
		for _, first := range []int{-1, 1, 66} {
			for _, client := range []int{0, 1, 65} {
				if ops, e := diff.Between(p[0], p[1], client, first); e != want || len(ops) != 0 {
					t.Fatalf("P17.1: Between(%s, %s, %d, %d) = %s, %d, want nothing, %d", quote(p[0]), quote(p[1]), client, first, listed(ops), e, want)
				}
			}
		}
	}
}
