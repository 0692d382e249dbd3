package space_test

import (
	"math/rand/v2"
	"slices"
	"strconv"
	"strings"
	"testing"

	"jotter/api"
	"jotter/doc"
	"jotter/ot"
	"jotter/space"
)

// model is a space told in the plainest way: all that was ever kept, with those at its front dropped.
type model struct {
	first   bool
	kept    []api.Marked
	dropped int
}

// past gives a behind b, by layer 5's rules told anew.
func past(a, b api.Op, aFirst bool) api.Op {
	switch {
	case a.Kind == api.Nop || b.Kind == api.Nop || b.Pos > a.Pos:
		return a
	case b.Kind == api.Insert && b.Pos == a.Pos && a.Kind == api.Insert && aFirst:
		return a
	case b.Kind == api.Insert:
		a.Pos++
	case b.Pos < a.Pos:
		a.Pos--
	case a.Kind == api.Delete:
		return by(nop(), a.Client, a.Seq)
	}
	return a
}

func (m *model) last() int {
	if len(m.kept) == 0 {
		return 0
	}
	return m.kept[len(m.kept)-1].Mark
}

func (m *model) queue() []api.Marked { return m.kept[m.dropped:] }

func (m *model) keep(mark int, op api.Op) api.Errno {
	if e := doc.Valid(op); e != api.OK {
		return e
	}
	if mark <= m.last() || mark > 4096 {
		return api.ErrMark
	}
	m.kept = append(m.kept, at(mark, op))
	return api.OK
}

func (m *model) dropTo(mark int) int {
	before := m.dropped
	for m.dropped < len(m.kept) && m.kept[m.dropped].Mark <= mark {
		m.dropped++
	}
	return m.dropped - before
}

// cross gives the operation behind the queue, and the queue behind it.
func (m *model) cross(op api.Op) (api.Op, []api.Marked) {
	queue := slices.Clone(m.queue())
	for i, own := range queue {
		queue[i].Op = past(own.Op, op, m.first)
		op = past(op, own.Op, !m.first)
	}
	return op, queue
}

// callKeep, callDrop, callCross and callLook do a call to both, and end the test where they answer differently; each gives the answer in words.
func callKeep(t *testing.T, x *space.Space, m *model, mark int, op api.Op) string {
	t.Helper()
	want := m.keep(mark, op)
	wantKeep(t, "P10.2: against the model", x, mark, op, want)
	return "keep " + strconv.Itoa(int(want))
}

func callDrop(t *testing.T, x *space.Space, m *model, mark int) string {
	t.Helper()
	want := m.dropTo(mark)
	wantDrop(t, "P10.3: against the model", x, mark, want)
	return "drop " + strconv.Itoa(want)
}

func callCross(t *testing.T, x *space.Space, m *model, op api.Op) string {
	t.Helper()
	want, queue := m.cross(op)
	if got, e := x.Cross(op); e != api.OK || got != want {
		t.Fatalf("P10.4: against the model: Cross(%s) = %s, %d, want %s", word(op), word(got), e, word(want))
	}
	copy(m.queue(), queue)
	return "cross " + word(want)
}

func callLook(t *testing.T, x *space.Space, m *model, op api.Op) string {
	t.Helper()
	want, _ := m.cross(op)
	if got, e := x.Look(op); e != api.OK || got != want {
		t.Fatalf("P10.5: against the model: Look(%s) = %s, %d, want %s", word(op), word(got), e, word(want))
	}
	return "look " + word(want)
}

func wantSame(t *testing.T, x *space.Space, m *model) {
	t.Helper()
	wantState(t, "P10.6: against the model", x, m.last(), m.queue()...)
}

// playOne does one call to both.
func playOne(t *testing.T, r *rand.Rand, x *space.Space, m *model, places int) string {
	t.Helper()
	switch k := r.IntN(20); {
	case k < 7:
		return callKeep(t, x, m, m.last()+1+r.IntN(3), anyOp(r, places))
	case k < 8:
		return callKeep(t, x, m, m.last()-r.IntN(3), anyOp(r, places))
	case k < 10:
		return callDrop(t, x, m, m.last()-r.IntN(9))
	case k < 16:
		return callCross(t, x, m, anyOp(r, places))
	case k < 18:
		return callLook(t, x, m, anyOp(r, places))
	}
	wrong := anyOp(r, places)
	wrong.Kind += 3
	wantRefused(t, "P10.4: against the model", x, wrong, api.ErrOpKind)
	return callKeep(t, x, m, m.last()+1, wrong)
}

func TestAgainstModel(t *testing.T) {
	for seed := range 400 {
		r := dice(seed)
		first, places := seed%2 == 0, []int{3, 10, 100, 4096}[seed/2%4]
		x, m := space.New(first), &model{first: first}
		for range 200 {
			playOne(t, r, x, m, places)
			wantSame(t, x, m)
		}
	}
}

func TestAgainstModelNearTheLastMark(t *testing.T) {
	for seed := range 60 {
		r, first := dice(seed), seed%2 == 0
		x, m := space.New(first), &model{first: first}
		callKeep(t, x, m, 4060+r.IntN(36), anyOp(r, 5))
		for range 60 {
			playOne(t, r, x, m, 5)
			wantSame(t, x, m)
		}
	}
}

// callOne does the call of that number to both.
func callOne(t *testing.T, call int, x *space.Space, m *model) {
	t.Helper()
	mine, others := ops(ins(0, 'a'), ins(1, 'b'), del(0), del(1)), ops(by(ins(0, 'x'), 2, 2), by(ins(1, 'y'), 2, 2), by(del(0), 2, 2), by(del(1), 2, 2))
	switch {
	case call < 4:
		callKeep(t, x, m, m.last()+2, mine[call])
	case call < 8:
		callCross(t, x, m, others[call-4])
	case call == 8:
		callDrop(t, x, m, m.last())
	default:
		callDrop(t, x, m, m.last()-1)
	}
}

// TestAllShortRuns plays every list of four calls, of ten kinds: Keep and Cross of four operations each, DropTo all, DropTo all but the last.
func TestAllShortRuns(t *testing.T) {
	const kinds, length = 10, 4
	for _, first := range sides {
		for c, again := new(choices), true; again; again = c.more() {
			x, m := space.New(first), &model{first: first}
			for range length {
				callOne(t, c.pick(kinds), x, m)
			}
			wantSame(t, x, m)
		}
	}
}

func TestSameCallsSameAnswers(t *testing.T) {
	for seed := range 40 {
		var heard [2]strings.Builder
		for i := range heard {
			r, first := dice(seed), seed%2 == 0
			x, m := space.New(first), &model{first: first}
			other := space.New(first)
			for k := range 200 {
				heard[i].WriteString(playOne(t, r, x, m, 6) + ";" + words(x.Queue()) + "\n")
				if i == 1 {
					other.Keep(k+1, ins(0, 'z'))
					other.Cross(ins(0, 'y'))
					other.DropTo(k - 5)
				}
			}
		}
		if heard[0].String() != heard[1].String() {
			t.Fatalf("P10.10: the same calls, and other answers: %s and %s", brief(heard[0].String()), brief(heard[1].String()))
		}
	}
}

// TestOnlyTheQueueCounts: a space with a long past, and a new one with its queue alone, answer the same from then on.
func TestOnlyTheQueueCounts(t *testing.T) {
	for seed := range 200 {
		r, first := dice(seed), seed%2 == 0
		old, m := space.New(first), &model{first: first}
		for range 60 {
			playOne(t, r, old, m, 12)
		}
		young := filled(t, first, old.Queue()...)
		for range 80 {
			switch r.IntN(4) {
			case 0:
				to := old.Last() - r.IntN(12)
				wantDrop(t, "P10.8", young, to, old.DropTo(to))
			case 1:
				mark, op := old.Last()+1, anyOp(r, 12)
				wantKeep(t, "P10.8", young, mark, op, old.Keep(mark, op))
			default:
				op := anyOp(r, 12)
				want, _ := old.Cross(op)
				wantCross(t, "P10.8", young, op, want)
			}
			if got, want := young.Queue(), old.Queue(); !slices.Equal(got, want) {
				t.Fatalf("P10.8: the queue %s, want %s", words(got), words(want))
			}
		}
	}
}

// wantLineByLine ends the test unless crossing bs past as, and as past bs, gives what Weave gives.
func wantLineByLine(t *testing.T, as, bs []api.Op) {
	t.Helper()
	newAs, newBs, e := ot.Weave(as, bs)
	if e != api.OK {
		t.Fatalf("P5.4: Weave = %d", e)
	}
	wantLine(t, lined(t, true, as), bs, newBs, newAs)
	wantLine(t, lined(t, false, bs), as, newAs, newBs)
}

// wantLine ends the test unless a line, crossed one behind the other, comes out so, and leaves these in the queue.
func wantLine(t *testing.T, x *space.Space, line, out, stay []api.Op) {
	t.Helper()
	for i, op := range line {
		if got, e := x.Cross(op); e != api.OK || got != out[i] {
			t.Fatalf("P10.9: Cross(%s) = %s, %d, want %s", word(op), word(got), e, word(out[i]))
		}
	}
	wantState(t, "P10.9: what stays", x, len(stay), marked(stay)...)
}

func TestLineByLine(t *testing.T) {
	for seed := range 400 {
		r := dice(seed)
		places := 1 + r.IntN(20)
		wantLineByLine(t, anyLine(r, r.IntN(30), places), anyLine(r, r.IntN(30), places))
	}
	all := ops(ins(0, 'a'), ins(1, 'b'), del(0), del(1), nop())
	for _, a := range all {
		for _, b := range all {
			for _, c := range all {
				for _, d := range all {
					wantLineByLine(t, ops(by(a, 3, 1), by(b, 3, 2)), ops(by(c, 4, 1), by(d, 4, 2)))
				}
			}
		}
	}
}

// TestLineByLineKeepsOtherMarks: marks with gaps stay as they were.
func TestLineByLineKeepsOtherMarks(t *testing.T) {
	r := dice(7)
	for range 50 {
		x := space.New(true)
		as, bs, marks := anyLine(r, 12, 8), anyLine(r, 12, 8), []int(nil)
		for i, op := range as {
			marks = append(marks, 1+i*300+r.IntN(300))
			wantKeep(t, "P10.2", x, marks[i], op, api.OK)
		}
		for _, op := range bs {
			x.Cross(op)
		}
		newAs, _, _ := ot.Weave(as, bs)
		for i, m := range x.Queue() {
			if m != at(marks[i], newAs[i]) {
				t.Fatalf("P10.9: %d %s, want %d %s", m.Mark, word(m.Op), marks[i], word(newAs[i]))
			}
		}
	}
}

func TestLineByLineOfTheLongestLines(t *testing.T) {
	r := dice(11)
	wantLineByLine(t, anyLine(r, api.MaxLog, api.MaxDoc), anyLine(r, 200, api.MaxDoc))
	wantLineByLine(t, anyLine(r, 200, api.MaxDoc), anyLine(r, api.MaxLog, api.MaxDoc))
	wantLineByLine(t, anyLine(r, api.MaxLog, 2), anyLine(r, 3, 2))
	wantLineByLine(t, nil, anyLine(r, api.MaxLog, 2))
	wantLineByLine(t, anyLine(r, api.MaxLog, 2), nil)
}
