package search_test

import (
	"fmt"
	"math"
	"slices"
	"strings"
	"sync"
	"testing"

	"jotter/api"
	"jotter/search"
)

// TestLimitsByName: the numbers of the chapter.
func TestLimitsByName(t *testing.T) {
	for name, c := range map[string][2]int{
		"MaxNeedle": {api.MaxNeedle, 64}, "LeastCh": {api.LeastCh, 32}, "MostCh": {api.MostCh, 126}, "MaxDoc": {api.MaxDoc, 4096},
		"ErrNeedle": {int(api.ErrNeedle), 240}, "ErrStep": {int(api.ErrStep), 241}, "ErrMaker": {int(api.ErrMaker), 222}, "ErrFull": {int(api.ErrFull), 44},
	} {
		if c[0] != c[1] {
			t.Errorf("%s is %d, want %d", name, c[0], c[1])
		}
	}
}

// TestFillAndEmpty: a text is filled up to its last character, then nothing goes in; emptied, then nothing goes out.
func TestFillAndEmpty(t *testing.T) {
	x := index("")
	for n := range 4096 {
		if e := x.Apply(ins(n*n%(n+1), "ab"[n%2])); e != api.OK {
			t.Fatalf("P24.2: the insertion into a text of %d characters: %d", n, e)
		}
	}
	wantNoApply(t, x, ins(0, 'a'))
	wantNoApply(t, x, ins(4095, 'a'))
	wantNoApply(t, x, ins(4096, 'a'))
	if e := x.Apply(nop()); e != api.OK {
		t.Fatalf("P24.2: a Nop in a full text: %d", e)
	}
	a, _ := x.Find("a")
	b, _ := x.Find("b")
	if len(a) != 2048 || len(b) != 2048 {
		t.Fatalf("P24.4: %d and %d places in a full text", len(a), len(b))
	}
	wantNoApply(t, x, del(4096))
	for n := 4096; n > 0; n-- {
		if e := x.Apply(del(n * n % n)); e != api.OK {
			t.Fatalf("P24.2: the deletion from a text of %d characters: %d", n, e)
		}
		if n == 4096 {
			if e := x.Apply(ins(4095, 'z')); e != api.OK {
				t.Fatalf("P24.2: the insertion at the end of a text of 4095 characters: %d", e)
			}
			wantNext(t, x, "z", 0, 4095)
			if e := x.Apply(del(4095)); e != api.OK {
				t.Fatalf("P24.2: the deletion of the last character of a full text: %d", e)
			}
		}
	}
	wantText(t, x, "")
	wantNoApply(t, x, del(0))
}

// TestFillsAgain: a text that is filled and emptied many times, so that its pieces are cut and left small all over, answers as a new one.
func TestFillsAgain(t *testing.T) {
	x, m := index(""), &model{}
	r := dice(5000)
	for round := range 12 {
		for len(m.text) < 1500 {
			op := ins(r.IntN(len(m.text)+1), "ab c"[r.IntN(4)])
			x.Apply(op)
			m.apply(op)
		}
		wantText(t, x, m.text)
		wantAlike(t, x, "ab", "a", " c ", m.text[700:740])
		for len(m.text) > 20*(round%3) {
			op := del(r.IntN(len(m.text)))
			x.Apply(op)
			m.apply(op)
		}
		wantText(t, x, m.text)
		wantAlike(t, x, "ab", "a", " c ")
	}
}

// TestLongTexts: an index may be of more characters than a text may have; it is asked, and changed by nothing.
func TestLongTexts(t *testing.T) {
	for _, n := range []int{4097, 4098, 5000, 1 << 20} {
		text := strings.Repeat("a", n-1) + "b"
		x := index(text)
		for _, op := range []api.Op{nop(), ins(0, 'a'), del(0), ins(4095, 'a'), del(4095)} {
			if e := x.Apply(op); e != api.ErrStep {
				t.Fatalf("P24.2: Apply(%+v) to a text of %d characters: %d", op, n, e)
			}
		}
		wantText(t, x, text)
		all, e := x.Find(strings.Repeat("a", 64))
		if e != api.OK || len(all) != n-64 || all[0] != 0 || all[n-65] != n-65 {
			t.Fatalf("P24.4: in a text of %d characters %d places, %d", n, len(all), e)
		}
		wantFind(t, x, strings.Repeat("a", 63)+"b", n-64)
		wantNext(t, x, "b", 5, n-1)
		wantNext(t, x, "b", n-1, n-1)
		wantNext(t, x, "b", n, -1)
		wantNext(t, x, "a", n-2, n-2)
		wantNext(t, x, "a", n-1, -1)
		wantNoSwap(t, x, "b", "", 1, 1, api.ErrFull)
		wantNoSwap(t, x, "b", "", 0, 1, api.ErrMaker)
		wantNoSwap(t, x, "a", "", 1, 1, api.ErrMaker)
		wantSwap(t, x, "c", "d", 1, 65, "")
		wantWords(t, x, text+" 1")
	}
}

// TestManyWords: a long text of words, each of which comes often.
func TestManyWords(t *testing.T) {
	var text strings.Builder
	var want []string
	for k := range 676 {
		word := string([]byte{byte('a' + k/26), byte('a' + k%26)})
		for range 1 + k%9 {
			text.WriteString(word)
			text.WriteByte("., 0"[k%4])
		}
		want = append(want, fmt.Sprintf("%s %d", word, 1+k%9))
	}
	for range 5 {
		wantWords(t, index(text.String()), want...)
	}
}

// roomy gives a text with spare room behind it, and all of that memory.
func roomy(s string) (text, whole []api.Elem) {
	whole = elems(s + "and spare room")
	return whole[:len(s)], whole
}

// TestHandedInStays: a text that is handed in is not changed, and not kept: what becomes of it later does not show.
func TestHandedInStays(t *testing.T) {
	s := strings.Repeat("abc ", 80)
	text, whole := roomy(s)
	was := slices.Clone(whole)
	x := search.New(text)
	for i := range 200 {
		x.Apply(ins(i, 'x'))
		x.Apply(del(2 * i % 300))
		x.Find("abc")
		x.Swap("abc", "x", 1, 1)
	}
	if !slices.Equal(whole, was) {
		t.Fatal("P24.1: what was handed to New was changed")
	}
	y := search.New(text)
	want := sight(y, "abc", "c a")
	for i := range whole {
		whole[i] = api.Elem{Ch: 'z'}
	}
	if got := sight(y, "abc", "c a"); got != want {
		t.Fatalf("P24.1: what was handed to New was kept: %s", quote(got))
	}
	wantText(t, y, s)
}

// spoil writes over a list and over its spare room.
func spoil[T any](list []T, by T) {
	list = list[:cap(list)]
	for i := range list {
		list[i] = by
	}
}

// TestAnswersAreNewMemory: who writes into an answer changes no later one, and no list beside it.
func TestAnswersAreNewMemory(t *testing.T) {
	x := index(strings.Repeat("the cat ", 4) + "abracadabra")
	want := sight(x, "cat", "a", "abra", "cadabra")
	for range 3 {
		at, _ := x.Find("a")
		spoil(at, -9)
		ops, _ := x.Swap("abra", "xy", 3, 5)
		spoil(ops, api.Op{Kind: 9})
		words, counts := x.Words()
		had := slices.Clone(counts)
		spoil(words, "?")
		if !slices.Equal(counts, had) {
			t.Fatal("P24.10: the words and their numbers share memory")
		}
		spoil(counts, -9)
		at = append(at, 1, 2, 3)
		ops = append(ops, api.Op{}, api.Op{})
		if got := sight(x, "cat", "a", "abra", "cadabra"); got != want {
			t.Fatalf("P24.10: writing into an answer shows: %s, want %s", got, want)
		}
	}
}

// TestTextStays: a text that was told does not change with the index.
func TestTextStays(t *testing.T) {
	s := strings.Repeat("abc", 60)
	x := index(s)
	told := x.Text()
	words, _ := x.Words()
	for i := range 100 {
		x.Apply(del(0))
		x.Apply(ins(i, 'z'))
	}
	if told != s || words[0] != s {
		t.Fatalf("P24.10: a text that was told became %s", quote(told))
	}
}

// TestAskingChangesNothing: an index that is asked all the time, and one that is never, answer the same.
func TestAskingChangesNothing(t *testing.T) {
	asked, left := index("abracadabra"), index("abracadabra")
	r := dice(6000)
	n := 11
	for range 400 {
		sight(asked, "a", "abra", "", "\n", "ab")
		op := oddStep(r, n, 3)
		e, f := asked.Apply(op), left.Apply(op)
		if e != f {
			t.Fatalf("P24.10: the index that was asked answers %d, the other %d", e, f)
		}
		n = len(asked.Text())
	}
	if a, b := sight(asked, "a", "abra", "ab"), sight(left, "a", "abra", "ab"); a != b {
		t.Fatalf("P24.10: the index that was asked shows %s, the other %s", a, b)
	}
}

// TestRefusedChangesNothing: behind each call that is refused all answers are as they were.
func TestRefusedChangesNothing(t *testing.T) {
	x := index("the cat and the hat")
	was := sight(x, "the", "at", "t")
	for k, call := range []func() api.Errno{
		func() api.Errno { return x.Apply(api.Op{}) },
		func() api.Errno { return x.Apply(ins(20, 'x')) },
		func() api.Errno { return x.Apply(del(19)) },
		func() api.Errno { return x.Apply(del(math.MinInt)) },
		func() api.Errno { _, e := x.Find(""); return e },
		func() api.Errno { _, e := x.Next("\x00", 1); return e },
		func() api.Errno { _, e := x.Swap("the", "é", 1, 1); return e },
		func() api.Errno { _, e := x.Swap("the", "a", 65, 1); return e },
		func() api.Errno { _, e := x.Swap("the", "a", 1, 58); return e },
	} {
		if call() == api.OK || sight(x, "the", "at", "t") != was {
			t.Fatalf("P24.2 to P24.6: call %d was taken, or refused with a change", k)
		}
	}
}

// TestSideBySide: indexes that work at the same time do not disturb one another.
func TestSideBySide(t *testing.T) {
	doc := elems(strings.Repeat("abc ", 64))
	one := func() string {
		x := search.New(doc)
		r := dice(7000)
		n := len(doc)
		for range 500 {
			op := step(r, n, 4, "ab ")
			x.Apply(op)
			n = len(x.Text())
		}
		return sight(x, "ab", "a", "c a")
	}
	want := one()
	got := make([]string, 16)
	var group sync.WaitGroup
	for i := range got {
		group.Go(func() { got[i] = one() })
	}
	group.Wait()
	for _, s := range got {
		if s != want {
			t.Fatalf("P24.10: %s, want %s", quote(s), quote(want))
		}
	}
}
