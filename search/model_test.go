package search_test

import (
	"fmt"
	"math/rand/v2"
	"slices"
	"strconv"
	"strings"
	"testing"

	"jotter/api"
	"jotter/doc"
	"jotter/search"
)

// model is a text and nothing else: every question is answered by going through it anew, as the chapter's words say.
type model struct{ text string }

func (m *model) apply(op api.Op) api.Errno {
	if doc.Fits(len(m.text), op) != api.OK {
		return api.ErrStep
	}
	switch op.Kind {
	case api.Insert:
		m.text = m.text[:op.Pos] + string([]byte{op.Ch}) + m.text[op.Pos:]
	case api.Delete:
		m.text = m.text[:op.Pos] + m.text[op.Pos+1:]
	}
	return api.OK
}

// may tells whether a string may be looked for (least 1) or put in (least 0).
func may(s string, least int) bool {
	for i := range len(s) {
		if s[i] < 32 || s[i] > 126 {
			return false
		}
	}
	return len(s) >= least && len(s) <= 64
}

func (m *model) find(pattern string) ([]int, api.Errno) {
	if !may(pattern, 1) {
		return nil, api.ErrNeedle
	}
	var all []int
	for at := range len(m.text) {
		if strings.HasPrefix(m.text[at:], pattern) {
			all = append(all, at)
		}
	}
	return all, api.OK
}

func (m *model) next(pattern string, pos int) (int, api.Errno) {
	all, e := m.find(pattern)
	if e != api.OK {
		return 0, e
	}
	for _, at := range all {
		if at >= pos {
			return at, api.OK
		}
	}
	return -1, api.OK
}

func (m *model) swap(pattern, by string, client, first int) ([]api.Op, api.Errno) {
	if !may(pattern, 1) || !may(by, 0) {
		return nil, api.ErrNeedle
	}
	var at []int
	for p, _ := m.next(pattern, 0); p >= 0; p, _ = m.next(pattern, p+len(pattern)) {
		at = append(at, p)
	}
	count := len(at) * (len(pattern) + len(by))
	if client < 1 || client > 64 || first < 1 || first > 65 || first-1+count > 64 {
		return nil, api.ErrMaker
	}
	if count > 0 && (len(m.text) > 4096 || len(strings.ReplaceAll(m.text, pattern, by)) > 4096) {
		return nil, api.ErrFull
	}
	var ops []api.Op
	for k, p := range at {
		p += k * (len(by) - len(pattern))
		for range len(pattern) {
			ops = append(ops, api.Op{Kind: api.Delete, Pos: p, Client: client, Seq: first + len(ops)})
		}
		for i := range len(by) {
			ops = append(ops, api.Op{Kind: api.Insert, Pos: p + i, Ch: by[i], Client: client, Seq: first + len(ops)})
		}
	}
	return ops, api.OK
}

// words tells each word with its number.
func (m *model) words() []string {
	often := map[string]int{}
	word := ""
	for _, c := range append([]byte(m.text), 0) {
		switch {
		case 'a' <= c && c <= 'z' || 'A' <= c && c <= 'Z':
			word += string(rune(c))
		case word != "":
			often[word]++
			word = ""
		}
	}
	var all []string
	for w, n := range often {
		all = append(all, w+" "+strconv.Itoa(n))
	}
	// A space stands ahead of all letters: so the words with their numbers stand in the order of the words.
	slices.Sort(all)
	return all
}

// wantAsModel ends the test unless both answer the same to one question.
func wantAsModel(t *testing.T, x *search.Index, m *model, pattern, by string, pos, client, first int) {
	t.Helper()
	at, e := x.Find(pattern)
	if wat, we := m.find(pattern); !slices.Equal(at, wat) || e != we {
		t.Fatalf("P24.4: in %s Find(%q) = %v, %d, want %v, %d", quote(m.text), pattern, at, e, wat, we)
	}
	p, e := x.Next(pattern, pos)
	if wp, we := m.next(pattern, pos); p != wp || e != we {
		t.Fatalf("P24.5: in %s Next(%q, %d) = %d, %d, want %d, %d", quote(m.text), pattern, pos, p, e, wp, we)
	}
	ops, e := x.Swap(pattern, by, client, first)
	if wops, we := m.swap(pattern, by, client, first); !slices.Equal(ops, wops) || e != we {
		t.Fatalf("P24.6: in %s Swap(%q, %q, %d, %d) = %s, %d, want %s, %d", quote(m.text), pattern, by, client, first, opsWord(ops), e, opsWord(wops), we)
	}
}

// TestEveryShortText: all texts of up to 6 letters a and b, all patterns of up to 4, all places.
func TestEveryShortText(t *testing.T) {
	for _, text := range wordsUpTo(6) {
		x, m := index(text), &model{text}
		for _, pattern := range wordsUpTo(4) {
			for pos := -1; pos <= len(text)+1; pos++ {
				wantAsModel(t, x, m, pattern, "ab"[:len(pattern)%3], pos, 1+len(text), 1+10*len(pattern))
			}
		}
		wantWords(t, x, m.words()...)
	}
}

// TestEveryShortList: all lists of three operations on texts of up to three characters, those among them that do not fit.
func TestEveryShortList(t *testing.T) {
	var all []api.Op
	for pos := -1; pos <= 4; pos++ {
		all = append(all, ins(pos, 'a'), ins(pos, ' '), del(pos))
	}
	all = append(all, nop(), api.Op{Kind: 3, Client: 1, Seq: 1})
	for _, text := range []string{"", "a", "b a", "aa"} {
		for _, one := range all {
			for _, two := range all {
				for _, three := range all {
					x, m := index(text), &model{text}
					for _, op := range []api.Op{one, two, three} {
						if e, we := x.Apply(op), m.apply(op); e != we {
							t.Fatalf("P24.2: to %s Apply(%+v) = %d, want %d", quote(m.text), op, e, we)
						}
					}
					wantText(t, x, m.text)
					wantFind(t, x, " ", must(m.find(" "))...)
					wantFind(t, x, "aa", must(m.find("aa"))...)
				}
			}
		}
	}
}

func must(at []int, _ api.Errno) []int { return at }

// oddString gives a string that is mostly out of the text, sometimes of other characters, sometimes one that may not be.
func oddString(r *rand.Rand, text string) string {
	switch {
	case r.IntN(12) == 0:
		return []string{"", "\n", "é", strings.Repeat("a", 65), "a\x7f", "\x1f"}[r.IntN(6)]
	case len(text) == 0 || r.IntN(4) == 0:
		return mixed(r, 1+r.IntN(64), "ab ")
	}
	at := r.IntN(len(text))
	return text[at:min(at+1+r.IntN(8), len(text))]
}

// oddStep gives an operation that mostly fits.
func oddStep(r *rand.Rand, n, fade int) api.Op {
	op := step(r, n, fade, "aabB c-")
	if r.IntN(8) == 0 {
		switch r.IntN(5) {
		case 0:
			op.Kind = r.IntN(6) - 1
		case 1:
			op.Pos = r.IntN(2*n+4) - 2
		case 2:
			op.Ch = byte(r.IntN(256))
		case 3:
			op.Client = r.IntN(70) - 2
		case 4:
			op.Seq = r.IntN(70) - 2
		}
	}
	return op
}

// TestMixedCalls: long mixed lists of calls, each held against the model's answer.
func TestMixedCalls(t *testing.T) {
	for seed := range 40 {
		r := dice(4000 + seed)
		text := mixed(r, []int{0, 5, 126, 127, 128, 129, 130, 255, 256, 257, 1000}[seed%11], "abB -")
		x, m := index(text), &model{text}
		for range 1000 {
			op := oddStep(r, len(m.text), 2+seed%7)
			if e, we := x.Apply(op), m.apply(op); e != we {
				t.Fatalf("P24.2: Apply(%+v) = %d, want %d", op, e, we)
			}
			if r.IntN(8) == 0 {
				wantText(t, x, m.text)
				wantAsModel(t, x, m, oddString(r, m.text), oddString(r, m.text), r.IntN(len(m.text)+4)-2, r.IntN(67), r.IntN(68))
				wantWords(t, x, m.words()...)
			}
		}
	}
}

// TestPatternAtEveryPlace: one pattern that lies across each place at which pieces may be cut, in texts of all lengths, whole and built up.
func TestPatternAtEveryPlace(t *testing.T) {
	for _, n := range []int{64, 127, 128, 129, 200, 256, 257, 300, 384, 385} {
		for _, long := range []int{1, 2, 7, 33, 63, 64} {
			pattern := strings.Repeat("a", long-1) + "b"
			for at := 0; at+long <= n; at++ {
				text := strings.Repeat("a", at) + pattern + strings.Repeat("a", n-at-long)
				x := index(text)
				wantFind(t, x, pattern, at)
				wantNext(t, x, pattern, at, at)
				wantNext(t, x, pattern, at+1, -1)
			}
		}
	}
	x, m := index(""), &model{}
	for i := range 500 {
		op := ins(i*7%(i+1), "ab"[i/3%2])
		if e, we := x.Apply(op), m.apply(op); e != api.OK || we != api.OK {
			t.Fatalf("P24.2: Apply(%+v) = %d, %d", op, e, we)
		}
	}
	for at := range len(m.text) {
		for _, long := range []int{1, 5, 9, 20, 64} {
			wantAsModel(t, x, m, m.text[at:min(at+long, len(m.text))], "x", at, 1, 1)
		}
	}
}

// TestModelAgreesWithExamples: the model is no witness unless it tells the chapter's examples too.
func TestModelAgreesWithExamples(t *testing.T) {
	m := &model{"aaaa"}
	ops, e := m.swap("aa", "b", 3, 59)
	if got := opsWord(ops); got != "d0(3,59) d0(3,60) i0b(3,61) d1(3,62) d1(3,63) i1b(3,64)" || e != api.OK {
		t.Fatalf("the model's Swap: %s, %d", got, e)
	}
	if _, e := m.swap("aa", "b", 3, 60); e != api.ErrMaker {
		t.Fatalf("the model's Swap: %d", e)
	}
	if got := fmt.Sprint((&model{"the cat, The CAT the x1y"}).words()); got != "[CAT 1 The 1 cat 1 the 2 x 1 y 1]" {
		t.Fatalf("the model's words: %s", got)
	}
}
