package search_test

import (
	"math"
	"strings"
	"testing"

	"jotter/api"
	"jotter/search"
)

// TestFindExamples: the chapter's first example.
func TestFindExamples(t *testing.T) {
	x := index("abracadabra")
	wantFind(t, x, "abra", 0, 7)
	wantFind(t, x, "a", 0, 3, 5, 7, 10)
	wantFind(t, x, "x")
	wantNext(t, x, "abra", 1, 7)
	wantNext(t, x, "abra", 7, 7)
	wantNext(t, x, "abra", 8, -1)
	wantNext(t, x, "abra", -5, 0)
	for _, pattern := range []string{"", strings.Repeat("a", 65), "\n", "\xc3\xa9"} {
		wantNoPattern(t, x, pattern)
	}
}

// TestSwapExamples: the chapter's second and third example.
func TestSwapExamples(t *testing.T) {
	x := index("aaaa")
	wantFind(t, x, "aa", 0, 1, 2)
	wantSwap(t, x, "aa", "b", 3, 1, "d0(3,1) d0(3,2) i0b(3,3) d1(3,4) d1(3,5) i1b(3,6)")
	wantSwap(t, x, "aa", "", 3, 1, "d0(3,1) d0(3,2) d0(3,3) d0(3,4)")
	wantSwap(t, x, "aaa", "aaaa", 3, 1, "d0(3,1) d0(3,2) d0(3,3) i0a(3,4) i1a(3,5) i2a(3,6) i3a(3,7)")
	wantNoSwap(t, x, "aa", "b", 0, 1, api.ErrMaker)
	wantNoSwap(t, x, "aa", "b", 65, 1, api.ErrMaker)
	wantNoSwap(t, x, "aa", "b", 3, 0, api.ErrMaker)
	wantNoSwap(t, x, "aa", "b", 3, 60, api.ErrMaker)
	wantSwap(t, x, "aa", "b", 3, 59, "d0(3,59) d0(3,60) i0b(3,61) d1(3,62) d1(3,63) i1b(3,64)")
	wantSwap(t, x, "x", "y", 3, 65, "")
	wantNoSwap(t, x, "x", "y", 3, 66, api.ErrMaker)
	wantNoSwap(t, x, "", "y", 0, 0, api.ErrNeedle)
	wantNoSwap(t, x, "x", "\n", 0, 0, api.ErrNeedle)
}

// TestFullExamples: the chapter's fourth example.
func TestFullExamples(t *testing.T) {
	over := index(strings.Repeat("a", 4096) + "b")
	for _, op := range []api.Op{ins(0, 'x'), ins(4095, 'x'), del(0), del(4095), nop()} {
		wantNoApply(t, over, op)
	}
	wantNoSwap(t, over, "b", "c", 1, 1, api.ErrFull)
	wantSwap(t, over, "x", "c", 1, 1, "")
	x := index(full())
	wantNoSwap(t, x, "b", "cc", 1, 1, api.ErrFull)
	wantSwap(t, x, "b", "c", 1, 1, "d4095(1,1) i4095c(1,2)")
}

// TestApplyExamples: the chapter's fifth example.
func TestApplyExamples(t *testing.T) {
	x := index("abc")
	wantApply(t, x, ins(1, 'b'), "abbc")
	wantFind(t, x, "bb", 1)
	wantNoApply(t, x, del(4))
	wantNoApply(t, x, api.Op{Kind: 7})
	wantApply(t, x, nop(), "abbc")
	wantApply(t, x, del(0), "bbc")
	wantFind(t, x, "bb", 0)
}

// TestWordsExamples: the chapter's sixth example.
func TestWordsExamples(t *testing.T) {
	wantWords(t, index("the cat, The CAT the x1y"), "CAT 1", "The 1", "cat 1", "the 2", "x 1", "y 1")
	wantWords(t, index("12 3"))
}

// TestEmptyText: an index of nothing is one, and grows.
func TestEmptyText(t *testing.T) {
	for _, doc := range [][]api.Elem{nil, {}} {
		x := search.New(doc)
		if x == nil {
			t.Fatal("P24.1: New gives no index")
		}
		wantText(t, x, "")
		wantFind(t, x, "a")
		wantNext(t, x, "a", 0, -1)
		wantSwap(t, x, "a", "b", 1, 1, "")
		wantWords(t, x)
		wantNoApply(t, x, del(0))
		wantNoApply(t, x, ins(1, 'a'))
		wantApply(t, x, nop(), "")
		wantApply(t, x, ins(0, 'a'), "a")
		wantFind(t, x, "a", 0)
		wantApply(t, x, del(0), "")
		wantFind(t, x, "a")
		wantNoApply(t, x, del(0))
		wantApply(t, x, ins(0, 'b'), "b")
		wantApply(t, x, ins(1, 'c'), "bc")
	}
}

// TestCharactersAlone: whose an element is does not count, and its character may be any.
func TestCharactersAlone(t *testing.T) {
	var doc []api.Elem
	var want []byte
	for c := range 256 {
		doc = append(doc, api.Elem{Ch: byte(c), Client: c * c * math.MinInt, Seq: -c})
		want = append(want, byte(c))
	}
	doc = append(doc, api.Elem{Ch: 'a', Client: 1, Seq: 1}, api.Elem{Ch: 'a', Client: 1, Seq: 1}, api.Elem{Ch: 'a'})
	x := search.New(doc)
	wantText(t, x, string(want)+"aaa")
	wantFind(t, x, "aa", 256, 257)
	wantFind(t, x, "a", 97, 256, 257, 258)
	for c := 32; c <= 126; c++ {
		wantNext(t, x, string(rune(c)), 0, c)
	}
	wantFind(t, x, "}~", 125)
	wantSwap(t, x, "~", "!", 1, 1, "d126(1,1) i126!(1,2)")
	wantApply(t, x, del(0), string(want[1:])+"aaa")
}

// TestTextIsBytes: bytes that are characters elsewhere count one each.
func TestTextIsBytes(t *testing.T) {
	x := index("é\xffa\x00é")
	wantText(t, x, "é\xffa\x00é")
	wantFind(t, x, "a", 3)
	wantApply(t, x, ins(1, 'b'), "\xc3b\xa9\xffa\x00é")
	wantFind(t, x, "a", 4)
	wantSwap(t, x, "a", "xy", 1, 1, "d4(1,1) i4x(1,2) i5y(1,3)")
	wantApply(t, x, del(3), "\xc3b\xa9a\x00é")
	wantWords(t, x, "a 1", "b 1")
}

// TestRefusedSteps: each of the errors of doc.Fits becomes ErrStep.
func TestRefusedSteps(t *testing.T) {
	x := index("abc")
	for _, op := range []api.Op{
		{}, {Kind: 3, Client: 1, Seq: 1}, {Kind: -1, Client: 1, Seq: 1}, {Kind: 1<<32 + 1, Ch: 'x', Client: 1, Seq: 1},
		{Client: 0, Seq: 1}, {Client: 65, Seq: 1}, {Client: 1, Seq: 0}, {Client: 1, Seq: 65}, {Client: 1<<32 + 1, Seq: 1},
		{Kind: api.Insert, Ch: 'x'}, {Kind: api.Delete}, {Kind: api.Delete, Client: 1, Seq: 65}, {Kind: api.Insert, Ch: 'x', Client: -1, Seq: 1},
		ins(0, 31), ins(0, 127), ins(0, 0), ins(0, 255), {Kind: api.Delete, Ch: 'a', Client: 1, Seq: 1}, {Ch: 'a', Client: 1, Seq: 1},
		ins(-1, 'x'), ins(4, 'x'), ins(4095, 'x'), ins(4096, 'x'), ins(math.MaxInt, 'x'), ins(math.MinInt, 'x'), ins(1<<32, 'x'),
		del(-1), del(3), del(4), del(4096), del(math.MaxInt), del(math.MinInt), del(1 << 32), {Pos: 1, Client: 1, Seq: 1},
	} {
		wantNoApply(t, x, op)
	}
	wantFind(t, x, "abc", 0)
}

// TestAnyHandMayApply: whose an operation is does not show.
func TestAnyHandMayApply(t *testing.T) {
	x, want := index(""), ""
	for client := 1; client <= 64; client += 9 {
		for seq := 1; seq <= 64; seq += 9 {
			want += "a"
			wantApply(t, x, api.Op{Kind: api.Insert, Pos: len(want) - 1, Ch: 'a', Client: client, Seq: seq}, want)
			wantApply(t, x, api.Op{Kind: api.Nop, Client: client, Seq: seq}, want)
		}
	}
	wantApply(t, x, api.Op{Kind: api.Delete, Client: 64, Seq: 64}, want[1:])
	wantApply(t, x, api.Op{Kind: api.Delete, Client: 64, Seq: 64}, want[2:])
}

// patternsThatMayNotBe: too many characters, and such with a byte outside 32 to 126 at their beginning, in their midst, at their end.
func patternsThatMayNotBe() []string {
	all := []string{strings.Repeat("a", 65), strings.Repeat("a", 66), strings.Repeat("a", 128), strings.Repeat("a", 1<<16), strings.Repeat("é", 32), strings.Repeat("é", 64), "\xff", "a\u2028b", "\U0001F600"}
	for c := range 256 {
		if c < 32 || c > 126 {
			x := string([]byte{byte(c)})
			all = append(all, x, x+"ab", "a"+x+"b", "ab"+x, strings.Repeat("a", 63)+x, strings.Repeat("a", 64)+x)
		}
	}
	return all
}

// TestWhatMayNotBeLookedFor: refused as a pattern and as a filling, also where the text holds it.
func TestWhatMayNotBeLookedFor(t *testing.T) {
	for _, s := range patternsThatMayNotBe() {
		x := index(s)
		wantNoPattern(t, x, s)
		wantNoSwap(t, x, "a", s, 1, 1, api.ErrNeedle)
	}
	wantNoPattern(t, index("aaaa"), "")
	wantNoPattern(t, index(""), "")
}

// TestEveryCharacterMayBeLookedFor: by itself, beside itself, as a filling.
func TestEveryCharacterMayBeLookedFor(t *testing.T) {
	for c := 32; c <= 126; c++ {
		s := string(rune(c))
		x := index("\x1f" + s + s + "\x7f" + s + "\x80" + string([]byte{byte(c + 128)}))
		wantFind(t, x, s, 1, 2, 4)
		wantFind(t, x, s+s, 1)
		wantNext(t, x, s, 3, 4)
		wantSwap(t, x, s+s, s, 1, 1, "d1(1,1) d1(1,2) i1"+s+"(1,3)")
	}
}

// TestEveryLength: patterns of 1 to 64 characters, in a text that is as long, one longer, one shorter.
func TestEveryLength(t *testing.T) {
	for n := 1; n <= 64; n++ {
		p := strings.Repeat("a", n-1) + "b"
		wantFind(t, index(p), p, 0)
		wantFind(t, index("a"+p), p, 1)
		wantFind(t, index(p+"a"), p, 0)
		wantFind(t, index(p[1:]), p)
		wantFind(t, index(p[:n-1]), p)
		wantFind(t, index(p+p), p, 0, n)
		same := strings.Repeat("a", n)
		wantFind(t, index(same+"a"), same, 0, 1)
		if ops, e := index(same).Swap(same, "", 1, 65-n); e != api.OK || len(ops) != n {
			t.Fatalf("P24.6: Swap of %d characters by none: %d operations, %d", n, len(ops), e)
		}
		wantNoSwap(t, index(same), same, "", 1, 66-n, api.ErrMaker)
	}
}

// TestNextAnywhere: from each place on, and from numbers far outside.
func TestNextAnywhere(t *testing.T) {
	x := index("xaaxxaax")
	for pos, want := range []int{1, 1, 5, 5, 5, 5, -1, -1, -1, -1} {
		wantNext(t, x, "aa", pos, want)
	}
	for _, pos := range []int{-1, -2, math.MinInt, math.MinInt + 1, -1 << 32, -1<<32 + 2} {
		wantNext(t, x, "aa", pos, 1)
	}
	for _, pos := range []int{8, 9, 1 << 32, 1<<32 + 1, 1 << 40, math.MaxInt - 1, math.MaxInt} {
		wantNext(t, x, "aa", pos, -1)
		wantNext(t, x, "x", pos, -1)
	}
	wantNext(t, x, "x", 7, 7)
}

// TestSwapPlaces: those that lie over one that was taken are left, and one that begins where the last ended is taken.
func TestSwapPlaces(t *testing.T) {
	wantSwap(t, index("aaaaa"), "aa", "b", 1, 1, "d0(1,1) d0(1,2) i0b(1,3) d1(1,4) d1(1,5) i1b(1,6)")
	wantSwap(t, index("abababa"), "aba", "", 1, 1, "d0(1,1) d0(1,2) d0(1,3) d1(1,4) d1(1,5) d1(1,6)")
	wantSwap(t, index("xaaaxaa"), "aa", "aa", 2, 7, "d1(2,7) d1(2,8) i1a(2,9) i2a(2,10) d5(2,11) d5(2,12) i5a(2,13) i6a(2,14)")
	wantSwap(t, index("ab"), "b", "abab", 1, 60, "d1(1,60) i1a(1,61) i2b(1,62) i3a(1,63) i4b(1,64)")
	wantSwap(t, index("xx"), "x", "xx", 1, 1, "d0(1,1) i0x(1,2) i1x(1,3) d2(1,4) i2x(1,5) i3x(1,6)")
}

// TestSwapRoom: how many operations a first Seq leaves room for.
func TestSwapRoom(t *testing.T) {
	for k := range 8 {
		x := index(strings.Repeat("ab.", k))
		for n := range 7 {
			by, count := strings.Repeat("y", n), k*(2+n)
			for first := 1; first <= 70; first++ {
				ops, e := x.Swap("ab", by, 9, first)
				if first+count <= 65 {
					if e != api.OK || len(ops) != count {
						t.Fatalf("P24.6: %d places, %d characters, first %d: %d operations, %d", k, n, first, len(ops), e)
					}
				} else {
					wantNoSwap(t, x, "ab", by, 9, first, api.ErrMaker)
				}
			}
		}
	}
}

// TestSwapMakers: clients from 1 to 64 and Seqs from 1 on, also where nothing is to be swapped.
func TestSwapMakers(t *testing.T) {
	x := index("ab")
	for _, bad := range []int{0, -1, 65, 66, 1 << 32, 1<<32 + 1, math.MinInt, math.MaxInt} {
		for _, pattern := range []string{"a", "x"} {
			wantNoSwap(t, x, pattern, "b", bad, 1, api.ErrMaker)
		}
	}
	for _, bad := range []int{0, -1, -63, -64, -65, 66, 67, 1 << 32, 1<<32 + 1, math.MinInt, math.MinInt + 1, math.MaxInt - 1, math.MaxInt} {
		for _, pattern := range []string{"a", "x"} {
			wantNoSwap(t, x, pattern, "b", 1, bad, api.ErrMaker)
		}
	}
	for client := 1; client <= 64; client++ {
		ops, e := x.Swap("b", "", client, client)
		if e != api.OK || len(ops) != 1 || ops[0] != (api.Op{Kind: api.Delete, Pos: 1, Client: client, Seq: client}) {
			t.Fatalf("P24.6: Swap(b, , %d, %d) = %v, %d", client, client, ops, e)
		}
	}
	wantNoSwap(t, x, "b", "", 1, 65, api.ErrMaker)
	wantNoSwap(t, x, "b", "c", 1, 64, api.ErrMaker)
	wantSwap(t, x, "b", "c", 1, 63, "d1(1,63) i1c(1,64)")
}

// TestWhichErrorOfSwap: where several apply, the one that is named first.
func TestWhichErrorOfSwap(t *testing.T) {
	over, x := index(full()+"a"), index(full())
	for bits := range 8 {
		pattern, by, client, want := "b", "cc", 1, api.ErrFull
		if bits&4 != 0 {
			client, want = 0, api.ErrMaker
		}
		if bits&2 != 0 {
			by, want = "\n", api.ErrNeedle
		}
		if bits&1 != 0 {
			pattern, want = "", api.ErrNeedle
		}
		wantNoSwap(t, over, pattern, by, client, 1, want)
		wantNoSwap(t, x, pattern, by, client, 1, want)
	}
	wantNoSwap(t, x, "b", "cc", 1, 63, api.ErrMaker)
	wantNoSwap(t, x, "b", "cc", 1, 62, api.ErrFull)
	wantNoSwap(t, x, "a", "cc", 1, 1, api.ErrMaker)
}

// TestSwapInFullTexts: a text may become as full as it can be, and no fuller.
func TestSwapInFullTexts(t *testing.T) {
	for n := 4090; n <= 4099; n++ {
		for long := range 12 {
			x := index(strings.Repeat("-", n-9) + "ab" + strings.Repeat("-", 5) + "ab")
			by := strings.Repeat("y", long)
			if n > 4096 || n+2*(long-2) > 4096 {
				wantNoSwap(t, x, "ab", by, 1, 1, api.ErrFull)
			} else if ops, e := x.Swap("ab", by, 1, 1); e != api.OK || len(ops) != 2*(2+long) {
				t.Fatalf("P24.6: in a text of %d characters, by %d: %d operations, %d", n, long, len(ops), e)
			}
			wantSwap(t, x, "x", by, 1, 1, "")
		}
	}
}

// TestWordsOfLetters: what is beside the letters in the order of bytes is none, and parts words.
func TestWordsOfLetters(t *testing.T) {
	for c := range 256 {
		s := string([]byte{byte(c)})
		x := index("ab" + s + "ab")
		if 'a' <= c && c <= 'z' || 'A' <= c && c <= 'Z' {
			wantWords(t, x, "ab"+s+"ab 1")
		} else {
			wantWords(t, x, "ab 2")
			wantWords(t, index(s))
			wantWords(t, index(s+"ab"+s), "ab 1")
		}
	}
	wantWords(t, index("a"), "a 1")
	wantWords(t, index("b aa B a ab A aB Ab a"), "A 1", "Ab 1", "B 1", "a 2", "aB 1", "aa 1", "ab 1", "b 1")
	wantWords(t, index("\u017f\u212a\u00e9_I'm"), "I 1", "m 1")
}

// TestIndexesShareNothing: what one is told the other does not know.
func TestIndexesShareNothing(t *testing.T) {
	doc := elems(strings.Repeat("abc ", 100))
	x, y := search.New(doc), search.New(doc)
	was := sight(y, "abc", "c a")
	for i := range 150 {
		if e := x.Apply(ins(2*i, 'x')); e != api.OK {
			t.Fatalf("P24.2: Apply: %d", e)
		}
		if e := x.Apply(del(3 * i % 300)); e != api.OK {
			t.Fatalf("P24.2: Apply: %d", e)
		}
	}
	if now := sight(y, "abc", "c a"); now != was {
		t.Fatalf("P24.1: what another index was told shows: %s, was %s", quote(now), quote(was))
	}
}
