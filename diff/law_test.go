package diff_test

import (
	"math/rand/v2"
	"slices"
	"strings"
	"testing"

	"jotter/api"
	"jotter/diff"
	"jotter/doc"
)

// elements gives a text with those characters; no operation has the marks of these elements.
func elements(text string) []api.Elem {
	list := make([]api.Elem, len(text))
	for i := range list {
		list[i] = api.Elem{Ch: text[i], Client: -1, Seq: i}
	}
	return list
}

// wantTurned ends the test unless Between turns the one into the other, and leaves what Common tells of it.
func wantTurned(t *testing.T, a, b string) {
	t.Helper()
	ops, e := diff.Between(a, b, 5, 1)
	if e != api.OK {
		t.Fatalf("P17.3: Between(%s, %s): %d", quote(a), quote(b), e)
	}
	text := elements(a)
	for i, op := range ops {
		if text, e = doc.Apply(text, op); e != api.OK {
			t.Fatalf("P17.6: Between(%s, %s): operation %d of %s: %d", quote(a), quote(b), i, listed(ops), e)
		}
	}
	if doc.Text(text) != b {
		t.Fatalf("P17.6: Between(%s, %s) makes %s", quote(a), quote(b), quote(doc.Text(text)))
	}
	stay := slices.DeleteFunc(text, func(x api.Elem) bool { return x.Client == 5 })
	if !slices.IsSortedFunc(stay, func(x, y api.Elem) int { return x.Seq - y.Seq }) {
		t.Fatalf("P17.6: Between(%s, %s) leaves %v", quote(a), quote(b), stay)
	}
	wantCommon(t, a, b, doc.Text(stay))
	wantDistance(t, a, b, len(ops))
}

func TestTurned(t *testing.T) {
	for _, texts := range [][]string{allTexts("ab", 4), allTexts("abc", 3)} {
		for _, a := range texts {
			for _, b := range texts {
				wantTurned(t, a, b)
			}
		}
	}
	r := dice(4)
	for range 600 {
		letters := every()[:2+r.IntN(94)]
		a := mixed(r, r.IntN(513), letters)
		wantTurned(t, a, altered(r, a, r.IntN(65), letters))
	}
}

// TestTurnedForOthers: a text in which elements have the very marks of the operations is turned as well.
func TestTurnedForOthers(t *testing.T) {
	text := []api.Elem{{Ch: 'a', Client: 5, Seq: 1}, {Ch: 'b', Client: 5, Seq: 2}, {Ch: 'c', Client: 5, Seq: 2}}
	ops, _ := diff.Between("abc", "xcby", 5, 1)
	var e api.Errno
	for _, op := range ops {
		if text, e = doc.Apply(text, op); e != api.OK {
			t.Fatalf("P17.6: %s: %d", listed(ops), e)
		}
	}
	if doc.Text(text) != "xcby" {
		t.Fatalf("P17.6: %s makes %s", listed(ops), doc.Text(text))
	}
}

// reached tells how many inserts and deletes of one character it takes from a text to all others of at most n characters.
func reached(from, letters string, n int) map[string]int {
	far := map[string]int{from: 0}
	for line := []string{from}; len(line) > 0; line = line[1:] {
		text := line[0]
		var next []string
		for i := range len(text) {
			next = append(next, text[:i]+text[i+1:])
		}
		for i := 0; i <= len(text) && len(text) < n; i++ {
			for _, c := range letters {
				next = append(next, text[:i]+string(c)+text[i:])
			}
		}
		for _, x := range next {
			if _, ok := far[x]; !ok {
				far[x] = far[text] + 1
				line = append(line, x)
			}
		}
	}
	return far
}

// TestNoneIsShorter: all ways from one text to another are tried, by way of letters that neither has, too.
func TestNoneIsShorter(t *testing.T) {
	for _, a := range allTexts("ab", 4) {
		far := reached(a, "abc", 6)
		for _, b := range allTexts("ab", 4) {
			wantDistance(t, a, b, far[b])
		}
	}
	for _, a := range allTexts("abc", 3) {
		far := reached(a, "abc", 6)
		for _, b := range allTexts("abc", 3) {
			wantDistance(t, a, b, far[b])
		}
	}
}

// TestNoMoreThanMade: a text that has come from another by some changes is no farther from it than these.
func TestNoMoreThanMade(t *testing.T) {
	r := dice(5)
	for range 300 {
		a := mixed(r, r.IntN(513), "abcd")
		n := r.IntN(100)
		b := altered(r, a, n, "abcd")
		if far, e := diff.Distance(a, b); e != api.OK || far > n {
			t.Fatalf("P17.7: Distance(%s, %s) = %d, %d, want at most %d", quote(a), quote(b), far, e, n)
		}
	}
}

// distances gives how far each of some texts is from each.
func distances(t *testing.T, texts []string) [][]int {
	t.Helper()
	far := make([][]int, len(texts))
	for i, a := range texts {
		for _, b := range texts {
			n, e := diff.Distance(a, b)
			if e != api.OK {
				t.Fatalf("P17.4: Distance(%s, %s): %d", quote(a), quote(b), e)
			}
			far[i] = append(far[i], n)
		}
	}
	return far
}

// wantDistances ends the test unless they are a distance.
func wantDistances(t *testing.T, texts []string) {
	t.Helper()
	far := distances(t, texts)
	for i, a := range texts {
		for j, b := range texts {
			if far[i][j] < 0 || (far[i][j] == 0) != (a == b) || far[i][j] != far[j][i] {
				t.Fatalf("P17.8: Distance of %s and %s: %d, and back %d", quote(a), quote(b), far[i][j], far[j][i])
			}
			for k, c := range texts {
				if far[i][j] > far[i][k]+far[k][j] {
					t.Fatalf("P17.8: %s to %s: %d, by way of %s %d and %d", quote(a), quote(b), far[i][j], quote(c), far[i][k], far[k][j])
				}
			}
		}
	}
}

func TestDistance(t *testing.T) {
	wantDistances(t, allTexts("ab", 4))
	wantDistances(t, allTexts("xyz", 3))
	r := dice(6)
	near := mixed(r, 500, every())
	texts := []string{near, ""}
	for range 25 {
		texts = append(texts, mixed(r, r.IntN(513), "ab"), mixed(r, r.IntN(513), every()), altered(r, near, r.IntN(60), every()))
	}
	wantDistances(t, texts)
}

// TestEndsCountForNothing: what stands at both beginnings, or at both ends, changes no distance.
func TestEndsCountForNothing(t *testing.T) {
	r := dice(7)
	ends := func(r *rand.Rand) string { return mixed(r, r.IntN(180), "abc") }
	for range 500 {
		a, b := mixed(r, r.IntN(150), "abc"), mixed(r, r.IntN(150), "abc")
		n, e := diff.Distance(a, b)
		if e != api.OK {
			t.Fatalf("P17.4: Distance(%s, %s): %d", quote(a), quote(b), e)
		}
		head, foot := ends(r), ends(r)
		wantDistance(t, head+a, head+b, n)
		wantDistance(t, a+foot, b+foot, n)
		wantDistance(t, head+a+foot, head+b+foot, n)
	}
	most := strings.Repeat("a", api.MaxDiff-1)
	wantDistance(t, most+"x", most+"y", 2)
	wantDistance(t, "x"+most, "y"+most, 2)
}
