package diff_test

import (
	"slices"
	"sort"
	"strings"
	"testing"

	"jotter/api"
	"jotter/diff"
)

// modelWalk is P17.2, step by step; most is asked anew at each step. It gives the operations, of client 1 from Seq 1 on, and what is kept.
func modelWalk(a, b string, most func(x, y string) int) ([]api.Op, string) {
	var ops []api.Op
	var common, now []byte
	for a != "" || b != "" {
		switch {
		case a != "" && b != "" && a[0] == b[0]:
			common, now = append(common, a[0]), append(now, a[0])
			a, b = a[1:], b[1:]
		case a != "" && most(a[1:], b) == most(a, b):
			ops = append(ops, api.Op{Kind: api.Delete, Pos: len(now), Client: 1, Seq: len(ops) + 1})
			a = a[1:]
		default:
			ops = append(ops, api.Op{Kind: api.Insert, Pos: len(now), Ch: b[0], Client: 1, Seq: len(ops) + 1})
			now = append(now, b[0])
			b = b[1:]
		}
	}
	return ops, string(common)
}

// byParts gives Most as the chapter's words say it: all texts that are left of x when some characters are taken out, held against those of y.
func byParts() func(x, y string) int {
	parts, known := map[string][]string{}, map[[2]string]int{}
	of := func(x string) []string {
		if _, ok := parts[x]; !ok {
			for set := range 1 << len(x) {
				var part []byte
				for i := range len(x) {
					if set>>i&1 == 1 {
						part = append(part, x[i])
					}
				}
				parts[x] = append(parts[x], string(part))
			}
			slices.Sort(parts[x])
		}
		return parts[x]
	}
	return func(x, y string) int {
		if n, ok := known[[2]string{x, y}]; ok {
			return n
		}
		most := 0
		for _, part := range of(x) {
			if _, ok := slices.BinarySearch(of(y), part); ok {
				most = max(most, len(part))
			}
		}
		known[[2]string{x, y}] = most
		return most
	}
}

// byRises gives Most of long texts: the longest rising line through the places at which x's characters stand in y.
func byRises(x, y string) int {
	var places [256][]int
	for j := len(y) - 1; j >= 0; j-- {
		places[y[j]] = append(places[y[j]], j)
	}
	var ends []int
	for i := range len(x) {
		for _, j := range places[x[i]] {
			if k := sort.SearchInts(ends, j); k < len(ends) {
				ends[k] = j
			} else {
				ends = append(ends, j)
			}
		}
	}
	return len(ends)
}

// wantModel ends the test unless all three calls answer what the walk comes to.
func wantModel(t *testing.T, a, b string, most func(x, y string) int) {
	t.Helper()
	ops, common := modelWalk(a, b, most)
	if n := len(a) + len(b) - 2*most(a, b); n != len(ops) {
		t.Fatalf("P17.4: the walk from %s to %s has %d operations, want %d", quote(a), quote(b), len(ops), n)
	}
	wantDistance(t, a, b, len(ops))
	wantCommon(t, a, b, common)
	if len(ops) > api.MaxEdits {
		wantSeqRefused(t, a, b, 1, 1)
		return
	}
	wantBetween(t, a, b, 1, 1, listed(ops))
}

// TestShortTexts: all pairs of short texts.
func TestShortTexts(t *testing.T) {
	most := byParts()
	for _, texts := range [][]string{allTexts("ab", 5), allTexts("abc", 3), allTexts(" ~", 3)} {
		for _, a := range texts {
			for _, b := range texts {
				wantModel(t, a, b, most)
			}
		}
	}
}

// TestMixedTexts: texts of few letters and of many, apart from one another, and near.
func TestMixedTexts(t *testing.T) {
	r := dice(1)
	for range 600 {
		letters := every()[:2+r.IntN(12)]
		a := mixed(r, r.IntN(90), letters)
		b := mixed(r, r.IntN(90), letters)
		if r.IntN(2) == 0 {
			b = altered(r, a, r.IntN(70), letters)
		}
		wantModel(t, a, b, byRises)
	}
}

// TestMixedLongTexts: the same at the greatest lengths.
func TestMixedLongTexts(t *testing.T) {
	r := dice(2)
	for _, n := range []int{511, 512} {
		a := mixed(r, n, every()[40:60])
		wantModel(t, a, mixed(r, 512, every()[40:60]), byRises)
		for _, changes := range []int{1, 20, 60, 100} {
			wantModel(t, a, altered(r, a, changes, every()[40:60]), byRises)
		}
	}
}

// TestOneLine: whatever the first Seq and the client, the operations are the same but for these.
func TestOneLine(t *testing.T) {
	r := dice(3)
	for range 200 {
		a := mixed(r, r.IntN(40), "abc")
		b := altered(r, a, r.IntN(20), "abcd")
		ops, _ := modelWalk(a, b, byRises)
		client, first := 1+r.IntN(64), 1+r.IntN(65-len(ops))
		for i := range ops {
			ops[i].Client, ops[i].Seq = client, first+i
		}
		wantBetween(t, a, b, client, first, listed(ops))
	}
}

// TestManyTakenOut: the operations are as many as there are Seqs, in texts of the greatest length.
func TestManyTakenOut(t *testing.T) {
	a := strings.Repeat("abcdefgh", 64)
	b := strings.ReplaceAll(a, "h", "")
	ops, e := diff.Between(a, b, 64, 1)
	if e != api.OK || len(ops) != 64 || ops[63] != (api.Op{Kind: api.Delete, Pos: 448, Client: 64, Seq: 64}) {
		t.Fatalf("P17.3: Between = %s, %d", listed(ops), e)
	}
	back, e := diff.Between(b, a, 64, 1)
	if e != api.OK || len(back) != 64 || back[63] != (api.Op{Kind: api.Insert, Pos: 511, Ch: 'h', Client: 64, Seq: 64}) {
		t.Fatalf("P17.3: Between = %s, %d", listed(back), e)
	}
}
