package search_test

import (
	"math/rand/v2"
	"slices"
	"strings"
	"testing"

	"jotter/api"
	"jotter/doc"
	"jotter/search"
)

// wantAlike ends the test unless an index answers as a new one of its text does.
func wantAlike(t *testing.T, x *search.Index, patterns ...string) {
	t.Helper()
	fresh := index(x.Text())
	if a, b := sight(x, patterns...), sight(fresh, patterns...); a != b {
		t.Fatalf("P24.8: an index that came to its text by operations answers %s, a new one %s", a, b)
	}
}

// step gives an operation that fits a text of n characters. fade: of ten so many are deletions.
func step(r *rand.Rand, n, fade int, alphabet string) api.Op {
	op := api.Op{Kind: api.Delete, Client: 1 + r.IntN(64), Seq: 1 + r.IntN(64)}
	switch {
	case r.IntN(20) == 0:
		op.Kind = api.Nop
	case n > 0 && (n == api.MaxDoc || r.IntN(10) < fade):
		op.Pos = r.IntN(n)
	default:
		op.Kind, op.Pos, op.Ch = api.Insert, r.IntN(n+1), alphabet[r.IntN(len(alphabet))]
	}
	return op
}

// TestFollows: many operations of all kinds, at all places; the index holds what doc.Apply makes, and answers as a new one.
func TestFollows(t *testing.T) {
	for seed := range 24 {
		r := dice(seed)
		alphabet := []string{"ab", "a b", "aB, ", "xyz"}[seed%4]
		now := elems(mixed(r, []int{0, 1, 127, 128, 129, 300}[seed%6], alphabet))
		x := search.New(now)
		fade := 2 + seed%7
		for k := range 600 {
			op := step(r, len(now), fade, alphabet)
			next, e := doc.Apply(now, op)
			if f := x.Apply(op); e != api.OK || f != api.OK {
				t.Fatalf("P24.2: Apply(%+v): %d, doc.Apply: %d", op, f, e)
			}
			now = next
			wantText(t, x, doc.Text(now))
			if k%20 == 0 {
				at := r.IntN(len(now) + 1)
				piece := doc.Text(now)[at:min(at+1+r.IntN(64), len(now))]
				wantAlike(t, x, "a", "ab", "ba", "zx", "aaa", piece)
			}
		}
	}
}

// TestFollowsAtOnePlace: texts that grow and shrink at their beginning, in their midst, at their end, across all lengths at which pieces may be cut.
func TestFollowsAtOnePlace(t *testing.T) {
	places := []func(n int) int{
		func(n int) int { return 0 },
		func(n int) int { return n },
		func(n int) int { return n / 2 },
		func(n int) int { return min(n, 64) },
		func(n int) int { return min(n, 128) },
		func(n int) int { return max(n-1, 0) },
	}
	for k, put := range places {
		for l, take := range places {
			x, now := index(""), ""
			for i := range 700 {
				at := put(len(now))
				now = now[:at] + string(rune('a'+i%26)) + now[at:]
				if e := x.Apply(ins(at, byte('a'+i%26))); e != api.OK {
					t.Fatalf("P24.2: Apply: %d", e)
				}
				if i%50 == 49 {
					wantText(t, x, now)
				}
			}
			wantAlike(t, x, "abc", "zab", "ca", "z")
			for i := 0; now != ""; i++ {
				at := min(take(len(now)), len(now)-1)
				now = now[:at] + now[at+1:]
				if e := x.Apply(del(at)); e != api.OK {
					t.Fatalf("P24.2: Apply: %d", e)
				}
				if i%50 == 49 {
					wantText(t, x, now)
					wantAlike(t, x, "abc", "zab", "ca", "z")
				}
			}
			wantText(t, x, "")
			wantApply(t, x, ins(0, 'q'), "q")
			if t.Failed() {
				t.Fatalf("put %d, take %d", k, l)
			}
		}
	}
}

// TestManyWaysToOneText: whatever came and went, one text answers as the other.
func TestManyWaysToOneText(t *testing.T) {
	const goal = "abracadabra, abra cadabra; the cat and the hat"
	want := sight(index(goal), "abra", "a", "the ", "at")
	for seed := range 30 {
		r := dice(1000 + seed)
		begin := mixed(r, r.IntN(400), "ab c")
		x, now := index(begin), begin
		for range 300 {
			op := step(r, len(now), 5, "ab c")
			x.Apply(op)
			now = x.Text()
		}
		for now != "" {
			x.Apply(del(r.IntN(len(now))))
			now = x.Text()
		}
		order := r.Perm(len(goal))
		for k, i := range order {
			at := 0
			for _, j := range order[:k] {
				if j < i {
					at++
				}
			}
			x.Apply(ins(at, goal[i]))
		}
		if is := sight(x, "abra", "a", "the ", "at"); is != want {
			t.Fatalf("P24.8: %s, want %s", is, want)
		}
	}
}

// applied gives the text behind operations, each of which must fit.
func applied(t *testing.T, text string, ops []api.Op) string {
	t.Helper()
	now, x := elems(text), index(text)
	for _, op := range ops {
		next, e := doc.Apply(now, op)
		if f := x.Apply(op); e != api.OK || f != api.OK {
			t.Fatalf("P24.9: the operation %s of Swap does not fit %s: %d, %d", opsWord([]api.Op{op}), quote(doc.Text(now)), e, f)
		}
		now = next
	}
	wantText(t, x, doc.Text(now))
	return x.Text()
}

// wantSwapped ends the test unless what Swap gives leaves all between the places, and the filling at each.
func wantSwapped(t *testing.T, text, pattern, by string) {
	t.Helper()
	k := strings.Count(text, pattern)
	x := index(text)
	ops, e := x.Swap(pattern, by, 5, 1)
	if k*(len(pattern)+len(by)) > 64 {
		if e != api.ErrMaker {
			t.Fatalf("P24.6: in %s Swap(%q, %q, 5, 1): %d, want %d", quote(text), pattern, by, e, api.ErrMaker)
		}
		return
	}
	if e != api.OK {
		t.Fatalf("P24.6: in %s Swap(%q, %q, 5, 1): %d", quote(text), pattern, by, e)
	}
	if got, want := applied(t, text, ops), strings.ReplaceAll(text, pattern, by); got != want {
		t.Fatalf("P24.9: in %s Swap(%q, %q, 5, 1) = %s leaves %s, want %s", quote(text), pattern, by, opsWord(ops), quote(got), quote(want))
	}
}

// words gives all strings of a length of the letters a and b.
func words(n int) []string {
	if n == 0 {
		return []string{""}
	}
	var all []string
	for _, s := range words(n - 1) {
		all = append(all, s+"a", s+"b")
	}
	return all
}

// wordsUpTo gives those of all lengths up to n.
func wordsUpTo(n int) []string {
	var all []string
	for k := range n + 1 {
		all = append(all, words(k)...)
	}
	return all
}

// TestSwapSwapsShort: all texts of up to 7 letters a and b, all patterns of up to 3, all fillings of up to 2.
func TestSwapSwapsShort(t *testing.T) {
	for _, text := range wordsUpTo(7) {
		for _, pattern := range wordsUpTo(3)[1:] {
			for _, by := range wordsUpTo(2) {
				wantSwapped(t, text, pattern, by)
			}
		}
	}
}

// TestSwapSwapsLong: long texts, patterns out of them, fillings that hold the pattern or bring it about at their ends.
func TestSwapSwapsLong(t *testing.T) {
	for seed := range 400 {
		r := dice(2000 + seed)
		text := mixed(r, 1+r.IntN(600), []string{"ab", "abcdefgh", "ab ~!"}[seed%3])
		for range 4 {
			at := r.IntN(len(text))
			pattern := text[at:min(at+1+r.IntN(30), len(text))]
			for _, by := range []string{"", "x", pattern, pattern + pattern, pattern[1:], pattern[:len(pattern)-1], mixed(r, r.IntN(65), "ab")} {
				if len(by) <= 64 {
					wantSwapped(t, text, pattern, by)
				}
			}
		}
	}
}

// TestSwapSwapsFull: a text that is full in the end, and one that is full ahead of it.
func TestSwapSwapsFull(t *testing.T) {
	wantSwapped(t, strings.Repeat("-", 4081)+"ab-ab", "ab", "0123456")
	wantSwapped(t, full(), "b", "c")
	wantSwapped(t, full(), "ab", "xy")
	wantSwapped(t, full(), "aab", "")
	wantSwapped(t, "b"+full()[:4095], "b", "")
	wantSwapped(t, "b"+full()[:4095], "ba", "ab")
	text := strings.Repeat("a", 2048) + "bb" + strings.Repeat("a", 2034) + "bb"
	wantSwapped(t, text, "bb", "0123456")
}

// TestNextGoesThroughFind: asked again and again behind the last answer, Next tells what Find tells.
func TestNextGoesThroughFind(t *testing.T) {
	for seed := range 60 {
		r := dice(3000 + seed)
		text := mixed(r, r.IntN(700), "ab")
		x := index(text)
		for _, pattern := range []string{"a", "ab", "aba", "abab", "bbbb", mixed(r, 6, "ab")} {
			all, _ := x.Find(pattern)
			var gone []int
			for at, _ := x.Next(pattern, -1); at >= 0; at, _ = x.Next(pattern, at+1) {
				gone = append(gone, at)
			}
			if !slices.Equal(all, gone) {
				t.Fatalf("P24.5: in %s Next goes through %v, Find(%q) = %v", quote(text), gone, pattern, all)
			}
		}
	}
}
