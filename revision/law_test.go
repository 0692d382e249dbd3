package revision_test

import (
	"slices"
	"testing"

	"jotter/api"
	"jotter/doc"
	"jotter/revision"
)

// textOf gives the elements of a revision by Changes alone, from the empty text on.
func textOf(t *testing.T, p *revision.Past, rev int) []api.Elem {
	t.Helper()
	return turned(t, p, nil, 0, rev)
}

// turned gives what Changes makes of a text.
func turned(t *testing.T, p *revision.Past, text []api.Elem, from, to int) []api.Elem {
	t.Helper()
	ops, e := p.Changes(from, to)
	if e != api.OK {
		t.Fatalf("P18.7: Changes(%d, %d): %d", from, to, e)
	}
	for i, op := range ops {
		if text, e = doc.Apply(text, op); e != api.OK {
			t.Fatalf("P18.7: Changes(%d, %d): operation %d of %s: %d", from, to, i, opsWord(ops), e)
		}
	}
	return text
}

// mixedLogs gives some logs as bytes.
func mixedLogs(t *testing.T, seed int) [][]byte {
	t.Helper()
	r := dice(seed)
	logs := [][]byte{nil, logOf(), logOf(exampleEdits()...)}
	for n := range 12 {
		logs = append(logs, written(t, r, 1+n, 20+3*n, n, 2+n%5))
	}
	return logs
}

// TestChangesTurn: from any revision over any other to any third the text is the book's, element by element.
func TestChangesTurn(t *testing.T) {
	for _, image := range mixedLogs(t, 2) {
		b, _ := bookOf(t, image)
		p := opened(t, image)
		for from := range p.Revs() + 1 {
			want, _ := b.Doc(from)
			text := textOf(t, p, from)
			if !doc.Equal(text, want) {
				t.Fatalf("P18.7: Changes(0, %d) makes %q, want %q", from, doc.Text(text), doc.Text(want))
			}
			for over := 0; over <= p.Revs(); over += 3 {
				to := (from*7 + over*5) % (p.Revs() + 1)
				want, _ := b.Doc(to)
				if got := turned(t, p, turned(t, p, text, from, over), over, to); !doc.Equal(got, want) {
					t.Fatalf("P18.7: from %d over %d to %d: %q, want %q", from, over, to, doc.Text(got), doc.Text(want))
				}
			}
		}
	}
}

// TestChangesAreLeast: there is one operation for each element that one of the two has alone, deletions first, from the right, then insertions, from the left.
func TestChangesAreLeast(t *testing.T) {
	for _, image := range mixedLogs(t, 3) {
		p := opened(t, image)
		var texts [][]api.Elem
		for rev := range p.Revs() + 1 {
			texts = append(texts, textOf(t, p, rev))
		}
		for from, a := range texts {
			for to, b := range texts {
				ops, _ := p.Changes(from, to)
				deletions := slices.IndexFunc(append(ops, api.Op{Kind: api.Insert}), func(op api.Op) bool { return op.Kind == api.Insert })
				kept := 0
				for _, x := range a {
					if slices.Contains(b, x) {
						kept++
					}
				}
				if deletions != len(a)-kept || len(ops) != len(a)+len(b)-2*kept {
					t.Fatalf("P18.7: Changes(%d, %d) = %s: %d of %d and %d elements are in both", from, to, opsWord(ops), kept, len(a), len(b))
				}
				places := func(x, y api.Op) int { return x.Pos - y.Pos }
				backward := slices.Clone(ops[:deletions])
				slices.Reverse(backward)
				if !slices.IsSortedFunc(backward, places) || !slices.IsSortedFunc(ops[deletions:], places) {
					t.Fatalf("P18.7: Changes(%d, %d) = %s: not in their order", from, to, opsWord(ops))
				}
			}
		}
	}
}

// TestLives: what stands was born at or before its revision and dies behind it.
func TestLives(t *testing.T) {
	for _, image := range mixedLogs(t, 4) {
		p := opened(t, image)
		for rev := range p.Revs() + 1 {
			text, _ := p.Text(rev)
			births := map[int]int{}
			for pos := range len(text) {
				born, e := p.Born(rev, pos)
				if e != api.OK || born < 1 || born > rev {
					t.Fatalf("P18.5: Born(%d, %d) = %d, %d", rev, pos, born, e)
				}
				if died, e := p.Died(born); e != api.OK || died != 0 && died <= rev {
					t.Fatalf("P18.6: Died(%d) = %d, %d, though it stands in revision %d", born, died, e, rev)
				}
				births[born]++
			}
			if len(births) != len(text) {
				t.Fatalf("P18.5: the %d characters of revision %d are of %d records", len(text), rev, len(births))
			}
		}
	}
}

// TestRunsCover: the runs of a text lie side by side from its beginning to its end, and are as long as they can be.
func TestRunsCover(t *testing.T) {
	for _, image := range mixedLogs(t, 5) {
		p := opened(t, image)
		for rev := range p.Revs() + 1 {
			text := textOf(t, p, rev)
			runs, e := p.Blame(rev)
			end := 0
			for i, x := range runs {
				if x.From != end || x.To <= x.From || x.To > len(text) || i > 0 && runs[i-1].Client == x.Client {
					t.Fatalf("P18.4: Blame(%d) = %s", rev, runsWord(runs))
				}
				for _, y := range text[x.From:x.To] {
					if y.Client != x.Client {
						t.Fatalf("P18.4: Blame(%d) = %s: %v is another's", rev, runsWord(runs), y)
					}
				}
				end = x.To
			}
			if e != api.OK || end != len(text) {
				t.Fatalf("P18.4: Blame(%d) = %s, %d: the text has %d characters", rev, runsWord(runs), e, len(text))
			}
		}
	}
}

// TestTalliesMeet: all that was put in was taken away or stands; what stands of a client is what Blame gives it.
func TestTalliesMeet(t *testing.T) {
	for _, image := range mixedLogs(t, 6) {
		p := opened(t, image)
		for rev := range p.Revs() + 1 {
			text, _ := p.Text(rev)
			runs, _ := p.Blame(rev)
			var sum [3]int
			for client := 1; client <= api.MaxClients; client++ {
				put, took, stand, e := p.Tally(client, rev)
				blamed := 0
				for _, x := range runs {
					if x.Client == client {
						blamed += x.To - x.From
					}
				}
				if e != api.OK || stand != blamed || stand > put {
					t.Fatalf("P18.8: Tally(%d, %d) = %d, %d, %d, %d; Blame gives it %d", client, rev, put, took, stand, e, blamed)
				}
				sum[0], sum[1], sum[2] = sum[0]+put, sum[1]+took, sum[2]+stand
			}
			if sum[0] != sum[1]+sum[2] || sum[2] != len(text) {
				t.Fatalf("P18.8: all tallies of revision %d: %v, the text has %d characters", rev, sum, len(text))
			}
		}
	}
}

// TestLaterRecordsChangeNothing: a longer log tells of its first records what the shorter one does, but for Died.
func TestLaterRecordsChangeNothing(t *testing.T) {
	image := written(t, dice(7), 5, 60, 8, 4)
	whole := opened(t, image)
	for revs := range whole.Revs() + 1 {
		b, _ := bookOf(t, image)
		p := opened(t, logOf(b.Edits()[:revs]...))
		for rev := range revs + 1 {
			text, _ := whole.Text(rev)
			wantText(t, p, rev, text)
			ops, _ := whole.Changes(revs, rev)
			wantChanges(t, p, revs, rev, ops...)
			died := 0
			if rev > 0 {
				died, _ = whole.Died(rev)
			}
			if rev > 0 && died <= revs {
				wantDied(t, p, rev, died)
			} else if rev > 0 {
				wantDied(t, p, rev, 0)
			}
		}
	}
}
