package search_test

import (
	"fmt"
	"math/rand/v2"
	"slices"
	"strconv"
	"strings"
	"testing"

	"jotter/api"
	"jotter/search"
)

// elems gives a text's elements, each of an edit of its own as far as there are so many.
func elems(s string) []api.Elem {
	var all []api.Elem
	for i := range len(s) {
		all = append(all, api.Elem{Ch: s[i], Client: 1 + i/64%64, Seq: 1 + i%64})
	}
	return all
}

func index(s string) *search.Index { return search.New(elems(s)) }

func ins(pos int, ch byte) api.Op {
	return api.Op{Kind: api.Insert, Pos: pos, Ch: ch, Client: 1, Seq: 1}
}

func del(pos int) api.Op { return api.Op{Kind: api.Delete, Pos: pos, Client: 1, Seq: 1} }

func nop() api.Op { return api.Op{Kind: api.Nop, Client: 1, Seq: 1} }

// full gives 4096 characters, the last of them a b, all others a.
func full() string { return strings.Repeat("a", 4095) + "b" }

// dice gives numbers that look mixed, the same at every run.
func dice(seed int) *rand.Rand { return rand.New(rand.NewPCG(uint64(seed), 24)) }

// mixed gives n of the characters of an alphabet.
func mixed(r *rand.Rand, n int, alphabet string) string {
	b := make([]byte, n)
	for i := range b {
		b[i] = alphabet[r.IntN(len(alphabet))]
	}
	return string(b)
}

// quote tells a text, and keeps what a failed test tells readable.
func quote(s string) string {
	if len(s) > 60 {
		return strconv.Quote(s[:60]) + ".. (" + strconv.Itoa(len(s)) + ")"
	}
	return strconv.Quote(s)
}

// opsWord tells operations as the chapter writes them.
func opsWord(ops []api.Op) string {
	var words []string
	for _, op := range ops {
		switch op.Kind {
		case api.Insert:
			words = append(words, fmt.Sprintf("i%d%c(%d,%d)", op.Pos, op.Ch, op.Client, op.Seq))
		case api.Delete:
			words = append(words, fmt.Sprintf("d%d(%d,%d)", op.Pos, op.Client, op.Seq))
		default:
			words = append(words, fmt.Sprintf("%+v", op))
		}
	}
	return strings.Join(words, " ")
}

func wantText(t *testing.T, x *search.Index, want string) {
	t.Helper()
	if s := x.Text(); s != want {
		t.Fatalf("P24.3: Text() = %s, want %s", quote(s), quote(want))
	}
}

func wantApply(t *testing.T, x *search.Index, op api.Op, want string) {
	t.Helper()
	if e := x.Apply(op); e != api.OK {
		t.Fatalf("P24.2: Apply(%+v) = %d, want 0", op, e)
	}
	if s := x.Text(); s != want {
		t.Fatalf("P24.2: behind Apply(%+v) the text is %s, want %s", op, quote(s), quote(want))
	}
}

// wantNoApply ends the test unless the operation is refused and the text is as it was.
func wantNoApply(t *testing.T, x *search.Index, op api.Op) {
	t.Helper()
	was := x.Text()
	if e := x.Apply(op); e != api.ErrStep {
		t.Fatalf("P24.2: Apply(%+v) to %s = %d, want %d", op, quote(was), e, api.ErrStep)
	}
	if x.Text() != was {
		t.Fatalf("P24.2: Apply(%+v) was refused and made %s of %s", op, quote(x.Text()), quote(was))
	}
}

func wantFind(t *testing.T, x *search.Index, pattern string, want ...int) {
	t.Helper()
	if at, e := x.Find(pattern); e != api.OK || !slices.Equal(at, want) {
		t.Fatalf("P24.4: in %s Find(%s) = %v, %d, want %v, 0", quote(x.Text()), quote(pattern), at, e, want)
	}
}

func wantNext(t *testing.T, x *search.Index, pattern string, pos, want int) {
	t.Helper()
	if at, e := x.Next(pattern, pos); e != api.OK || at != want {
		t.Fatalf("P24.5: in %s Next(%s, %d) = %d, %d, want %d, 0", quote(x.Text()), quote(pattern), pos, at, e, want)
	}
}

// wantNoPattern ends the test unless all that take a pattern refuse this one.
func wantNoPattern(t *testing.T, x *search.Index, pattern string) {
	t.Helper()
	if at, e := x.Find(pattern); e != api.ErrNeedle || len(at) != 0 {
		t.Fatalf("P24.4: Find(%s) = %v, %d, want none, %d", quote(pattern), at, e, api.ErrNeedle)
	}
	for _, pos := range []int{-1, 0, 1, 1 << 40} {
		if at, e := x.Next(pattern, pos); e != api.ErrNeedle || at != 0 {
			t.Fatalf("P24.5: Next(%s, %d) = %d, %d, want 0, %d", quote(pattern), pos, at, e, api.ErrNeedle)
		}
	}
	wantNoSwap(t, x, pattern, "y", 1, 1, api.ErrNeedle)
}

// wantSwap ends the test unless Swap gives those operations, told as the chapter writes them, and leaves the text alone.
func wantSwap(t *testing.T, x *search.Index, pattern, by string, client, first int, want string) {
	t.Helper()
	was := x.Text()
	ops, e := x.Swap(pattern, by, client, first)
	if e != api.OK || opsWord(ops) != want {
		t.Fatalf("P24.6: in %s Swap(%s, %s, %d, %d) = %s, %d, want %s, 0", quote(was), quote(pattern), quote(by), client, first, opsWord(ops), e, want)
	}
	for _, op := range ops {
		if op.Kind == api.Delete && op.Ch != 0 {
			t.Fatalf("P24.6: Swap(%s, %s, %d, %d) gives the Delete %+v", quote(pattern), quote(by), client, first, op)
		}
	}
	if x.Text() != was {
		t.Fatalf("P24.6: Swap(%s, %s, %d, %d) made %s of %s", quote(pattern), quote(by), client, first, quote(x.Text()), quote(was))
	}
}

func wantNoSwap(t *testing.T, x *search.Index, pattern, by string, client, first int, want api.Errno) {
	t.Helper()
	was := x.Text()
	if ops, e := x.Swap(pattern, by, client, first); e != want || len(ops) != 0 {
		t.Fatalf("P24.6: in %s Swap(%s, %s, %d, %d) = %s, %d, want none, %d", quote(was), quote(pattern), quote(by), client, first, opsWord(ops), e, want)
	}
	if x.Text() != was {
		t.Fatalf("P24.6: a refused Swap(%s, %s, %d, %d) made %s of %s", quote(pattern), quote(by), client, first, quote(x.Text()), quote(was))
	}
}

// wantWords ends the test unless the index has those words, each told with its number: "the 2".
func wantWords(t *testing.T, x *search.Index, want ...string) {
	t.Helper()
	words, counts := x.Words()
	if len(words) != len(counts) {
		t.Fatalf("P24.7: %d words, %d numbers", len(words), len(counts))
	}
	var told []string
	for i, word := range words {
		told = append(told, word+" "+strconv.Itoa(counts[i]))
	}
	if !slices.Equal(told, want) {
		t.Fatalf("P24.7: in %s the words are %q, want %q", quote(x.Text()), told, want)
	}
}

// sight tells what an index answers to some questions.
func sight(x *search.Index, patterns ...string) string {
	words, counts := x.Words()
	word := fmt.Sprintf("%q %q %v", x.Text(), words, counts)
	for _, p := range patterns {
		at, e := x.Find(p)
		word += fmt.Sprintf(" %q: %v %d", p, at, e)
		for _, pos := range []int{-1, 0, 1, 2, 100, 128, 129} {
			at, e := x.Next(p, pos)
			word += fmt.Sprintf(" %d %d", at, e)
		}
		ops, e := x.Swap(p, "xy", 3, 5)
		word += fmt.Sprintf(" %s %d", opsWord(ops), e)
	}
	return word
}
