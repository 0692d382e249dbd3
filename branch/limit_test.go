package branch_test

import (
	"reflect"
	"slices"
	"strings"
	"sync"
	"testing"

	"jotter/api"
	"jotter/book"
	"jotter/branch"
	"jotter/disk"
	"jotter/doc"
	"jotter/revision"
)

// long gives a log of insertions, the k-th at the place that at tells, and behind them so many deletions of the first character.
func long(t *testing.T, insertions, deletions int, at func(k int) int) tale {
	t.Helper()
	d := disk.New()
	b, _ := book.Open(d)
	b.Boot()
	for k := range insertions + deletions {
		client, seq := k%api.MaxClients+1, k/api.MaxClients+1
		op := del(0, client, seq)
		if k < insertions {
			op = ins(at(k), byte('a'+k%26), client, seq)
		}
		if _, _, e := b.Add(edit(k, op)); e != api.OK {
			t.Fatalf("book.Add of edit %d: %d", k, e)
		}
	}
	return read(t, d, b)
}

func atEnd(k int) int { return k }

// TestFullHeads: heads that have room for just so many characters. What the branch takes away makes no room, what it takes away in vain neither.
func TestFullHeads(t *testing.T) {
	for _, room := range []int{0, 1, 2, 63, 64} {
		x := long(t, api.MaxDoc-room, 0, atEnd)
		head := x.text(t, x.Revs())
		for _, c := range []struct{ front, back string }{{"", ""}, {"abc", "abc"}, {"abc", "ac"}, {"abc", ""}} {
			base, kept := len(c.front), len(c.back)
			for _, put := range []int{room, room + 1} {
				text := c.back + strings.Repeat("Z", put)
				switch {
				case base-kept+put > api.MaxEdits:
					wantRefused(t, x.Past, base, text, api.ErrSplit)
				case put > room:
					wantRefused(t, x.Past, base, text, api.ErrFull)
				default:
					wantMerge(t, x.Past, base, text, c.back+head[base:]+strings.Repeat("Z", put))
					wantLost(t, x.Past, base, text, 0)
				}
			}
		}
	}
}

// TestFullBehindLost: deletions that came to nothing are not counted either, and insertions always are.
func TestFullBehindLost(t *testing.T) {
	// 4095 were put in, the first of them taken away: 4094 are left. The base is "abc", of which a goes.
	x := long(t, api.MaxLog-1, 1, atEnd)
	head := x.text(t, x.Revs())
	wantMerge(t, x.Past, 3, "XYbc", "XY"+head)
	wantLost(t, x.Past, 3, "XYbc", 1)
	wantRefused(t, x.Past, 3, "XYZbc", api.ErrFull)
	wantRefused(t, x.Past, 3, "XYZ", api.ErrFull)
	wantMerge(t, x.Past, 3, "XY", head[2:]+"XY")
	wantClashes(t, x.Past, 3, "XY", run(4092, 4094))
}

// TestMakerAheadOfFull: P22.1's order.
func TestMakerAheadOfFull(t *testing.T) {
	x := long(t, api.MaxDoc, 0, func(int) int { return 0 })
	was := x.text(t, 3)
	for _, c := range [][2]int{{0, 1}, {65, 1}, {1, 0}, {1, 65}, {1, 66}, {-1, -1}} {
		wantNoRebase(t, x.Past, 3, was+"X", c[0], c[1], api.ErrMaker)
	}
	wantNoRebase(t, x.Past, 3, was+"X", 1, 1, api.ErrFull)
	wantNoRebase(t, x.Past, 3, was+"X", 64, 64, api.ErrFull)
	wantNoRebase(t, x.Past, 3, was+"XY", 64, 63, api.ErrFull)
	wantNoRebase(t, x.Past, 3, was+"XY", 64, 64, api.ErrMaker)
	wantRefused(t, x.Past, 3, was+"X", api.ErrFull)
	wantRefused(t, x.Past, 3, was+"\n", api.ErrSplit)
	wantRefused(t, x.Past, 3, was+strings.Repeat("X", 65), api.ErrSplit)
	wantRefused(t, x.Past, 4097, was+"X", api.ErrBase)
	wantRebase(t, x.Past, 3, was, 1, 65)
	wantMerge(t, x.Past, 3, was, x.text(t, x.Revs()))
	wantMerge(t, x.Past, 3, "", x.text(t, x.Revs())[:api.MaxDoc-3])
}

// TestLastPlace: the last place that an insertion can have.
func TestLastPlace(t *testing.T) {
	x := long(t, api.MaxDoc-1, 0, atEnd)
	wantRebase(t, x.Past, 2, "abZ", 3, 64, ins(4095, 'Z', 3, 64))
	wantClashes(t, x.Past, 2, "abZ", run(4095, 4096))
	x = long(t, api.MaxDoc-64, 0, atEnd)
	text := strings.Repeat("yz", 32)
	wantMerge(t, x.Past, 0, text, x.text(t, x.Revs())+text)
	wantClashes(t, x.Past, 0, text, run(4032, 4096))
	ops, e := branch.Rebase(x.Past, 0, text, 64, 1)
	if e != api.OK || len(ops) != 64 || ops[0] != ins(4032, 'y', 64, 1) || ops[63] != ins(4095, 'z', 64, 64) {
		t.Fatalf("P22.2: Rebase of 64 characters: %s, %d", opsWord(ops), e)
	}
}

// TestLongTexts: 512 characters are compared, 513 are not, on either side.
func TestLongTexts(t *testing.T) {
	x := long(t, 520, 0, atEnd)
	was := x.text(t, 512)
	wantMerge(t, x.Past, 512, was, x.text(t, 520))
	wantMerge(t, x.Past, 512, was[:511]+"Z", was[:511]+x.text(t, 520)[512:]+"Z")
	wantMerge(t, x.Past, 500, was[:500]+strings.Repeat("Z", 12), x.text(t, 520)+strings.Repeat("Z", 12))
	wantRefused(t, x.Past, 500, was[:500]+strings.Repeat("Z", 13), api.ErrSplit)
	wantRefused(t, x.Past, 512, was+"Z", api.ErrSplit)
	for base := 513; base <= 520; base++ {
		wantRefused(t, x.Past, base, x.text(t, base), api.ErrSplit)
		wantRefused(t, x.Past, base, was, api.ErrSplit)
		wantRefused(t, x.Past, base, "", api.ErrSplit)
		wantNoRebase(t, x.Past, base, was, 0, 0, api.ErrSplit)
	}
	wantRefused(t, x.Past, 512, was[:447], api.ErrSplit)
	wantMerge(t, x.Past, 512, was[:448], was[:448]+x.text(t, 520)[512:])
}

// TestGreatestLogs: the model's answers behind all edits that there can be.
func TestGreatestLogs(t *testing.T) {
	r := dice(10)
	for _, deletions := range []int{100, 1000, 2048} {
		x := long(t, api.MaxLog-deletions, deletions, func(k int) int { return k * 7919 % (k + 1) })
		for _, base := range []int{0, 1, 64, 511, 512, 4096} {
			was := x.text(t, base)
			if len(was) > api.MaxDiff {
				wantRefused(t, x.Past, base, "", api.ErrSplit)
				continue
			}
			text := altered(r, was, 30, "abcdefghijklmnopqrstuvwxyz")
			for len(text) > api.MaxDiff {
				text = text[1:]
			}
			wantModel(t, x, base, text, 64, 1)
		}
	}
}

// TestCutPast: what a log was cut to is the past that counts.
func TestCutPast(t *testing.T) {
	d := disk.New()
	b, _ := book.Open(d)
	b.Boot()
	b.Add(edit(0, ins(0, 'a', 1, 1)))
	b.Add(edit(1, ins(1, 'b', 1, 2)))
	bytes := d.Bytes()
	p, err := revision.Open(append(slices.Clone(bytes), 1, 2, 3))
	if p == nil || api.Code(err) != api.ErrTorn {
		t.Fatalf("revision.Open: %v", err)
	}
	wantMerge(t, p, 1, "aZ", "abZ")
	wantClashes(t, p, 1, "aZ", run(2, 3))
	wantRefused(t, p, 3, "", api.ErrBase)
	p, _ = revision.Open(bytes[:len(bytes)-1])
	wantMerge(t, p, 1, "aZ", "aZ")
	wantRefused(t, p, 2, "", api.ErrBase)
}

// sight is all that a past tells.
type sight struct {
	texts []string
	runs  [][]api.Run
	ops   [][]api.Op
	died  []int
}

func see(p *revision.Past) sight {
	var s sight
	for rev := range p.Revs() + 1 {
		text, _ := p.Text(rev)
		runs, _ := p.Blame(rev)
		ops, _ := p.Changes(rev, p.Revs())
		died, _ := p.Died(rev)
		s.texts, s.runs, s.ops, s.died = append(s.texts, text), append(s.runs, runs), append(s.ops, ops), append(s.died, died)
	}
	return s
}

// answers is what the four calls tell of a branch.
type answers struct {
	ops  []api.Op
	text string
	lost int
	runs []api.Run
	errs [4]api.Errno
}

func asked(p *revision.Past, base int, text string) answers {
	var a answers
	a.ops, a.errs[0] = branch.Rebase(p, base, text, 9, 1)
	a.text, a.errs[1] = branch.Merge(p, base, text)
	a.lost, a.errs[2] = branch.Lost(p, base, text)
	a.runs, a.errs[3] = branch.Clashes(p, base, text)
	return a
}

// TestAnswersAreNew: P22.8: what is written into a list, or behind it, is seen in no other answer.
func TestAnswersAreNew(t *testing.T) {
	p := example(t).Past
	before, want := see(p), asked(p, 3, "QabcR")
	a, b := asked(p, 3, "QabcR"), asked(p, 3, "QabcR")
	clear(a.ops[:cap(a.ops)])
	clear(a.runs[:cap(a.runs)])
	_ = append(b.ops[:1], del(9, 9, 9))
	_ = append(b.runs, run(7, 8))
	if got := asked(p, 3, "QabcR"); !reflect.DeepEqual(got, want) || len(want.ops) != 2 || len(want.runs) != 1 {
		t.Fatalf("P22.8: %v behind what was written into other answers, want %v", got, want)
	}
	if !reflect.DeepEqual(see(p), before) {
		t.Fatal("P22.8: the past has changed")
	}
}

// TestNothingIsKept: P22.8: a call answers the same whatever was asked before it, of this past, of others, and of another one that holds the same records.
func TestNothingIsKept(t *testing.T) {
	homes := mixedHomes(t, 11)[:80]
	var first []answers
	for _, h := range homes {
		first = append(first, asked(h.Past, h.base, h.text))
	}
	for i, h := range slices.Backward(homes) {
		before := see(h.Past)
		for _, other := range []string{"", "\n", "abc", h.text + "x", doc.Text(h.elems(t, h.Revs()))} {
			asked(h.Past, h.base, other)
			asked(h.Past, h.base+1, other)
			asked(h.Past, -1, other)
			branch.Rebase(h.Past, h.base, other, 0, 99)
		}
		same := told(t, h.log.Edits()...)
		if !reflect.DeepEqual(asked(h.Past, h.base, h.text), first[i]) || !reflect.DeepEqual(asked(same.Past, h.base, h.text), first[i]) {
			t.Fatalf("P22.8: base %d, %s: it has answered otherwise", h.base, quote(h.text))
		}
		if !reflect.DeepEqual(see(h.Past), before) {
			t.Fatalf("P22.8: base %d, %s: the past has changed", h.base, quote(h.text))
		}
	}
}

// TestSideBySide: one past can be asked by many at one time, because no call changes it.
func TestSideBySide(t *testing.T) {
	homes := mixedHomes(t, 12)[:20]
	var want []answers
	for _, h := range homes {
		want = append(want, asked(h.Past, h.base, h.text))
	}
	same := make([]bool, 8)
	var wg sync.WaitGroup
	for i := range same {
		wg.Go(func() {
			same[i] = true
			for k, h := range homes {
				same[i] = same[i] && reflect.DeepEqual(asked(h.Past, h.base, h.text), want[k])
			}
		})
	}
	wg.Wait()
	if slices.Contains(same, false) {
		t.Fatal("P22.8: asked side by side it has answered otherwise")
	}
}
