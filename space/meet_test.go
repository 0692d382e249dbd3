package space_test

import (
	"math/rand/v2"
	"testing"

	"jotter/api"
	"jotter/doc"
	"jotter/space"
)

// parcel is what one side sends to the other: a mark, the mark of the last parcel that it took in, the operation as it made it.
type parcel struct {
	mark, seen int
	op         api.Op
}

// end is one side of P10.7, with the line of parcels that come to it.
type end struct {
	space  *space.Space
	text   []api.Elem
	made   int
	seen   int
	coming []parcel
}

func newEnd(first bool, text []api.Elem) *end { return &end{space: space.New(first), text: text} }

// makes applies an operation of this side, keeps it, and sends it to the other.
func (x *end) makes(t *testing.T, other *end, op api.Op) {
	t.Helper()
	x.text = play(t, x.text, op)
	x.made++
	wantKeep(t, "P10.7", x.space, x.made, op, api.OK)
	other.coming = append(other.coming, parcel{x.made, x.seen, op})
}

// takes takes the next parcel in; it fails the test, if what Cross answers does not fit.
func (x *end) takes(t *testing.T) {
	t.Helper()
	p := x.coming[0]
	x.coming = x.coming[1:]
	x.space.DropTo(p.seen)
	op, e := x.space.Cross(p.op)
	if e != api.OK {
		t.Fatalf("P10.7: Cross(%s) = %d", word(p.op), e)
	}
	x.text = play(t, x.text, op)
	x.seen = p.mark
}

// play gives the text behind an operation; it fails the test if that does not fit.
func play(t *testing.T, text []api.Elem, op api.Op) []api.Elem {
	t.Helper()
	next, e := doc.Apply(text, op)
	if e != api.OK {
		t.Fatalf("P10.7: %s does not fit a text of %d: error %d", word(op), len(text), e)
	}
	return next
}

func wantText(t *testing.T, what string, x *end, want string) {
	t.Helper()
	if got := doc.Text(x.text); got != want {
		t.Fatalf("%s: the text %q, want %q", what, got, want)
	}
}

// wantMet ends the test if both lines are empty and the texts are not the same.
func wantMet(t *testing.T, a, b *end) {
	t.Helper()
	if len(a.coming) == 0 && len(b.coming) == 0 && !doc.Equal(a.text, b.text) {
		t.Fatalf("P10.7: the two sides do not meet: %q and %q", brief(doc.Text(a.text)), brief(doc.Text(b.text)))
	}
}

// drain lets one side, then the other, take in all that comes.
func drain(t *testing.T, a, b *end) {
	t.Helper()
	for len(a.coming) > 0 {
		a.takes(t)
		wantMet(t, a, b)
	}
	for len(b.coming) > 0 {
		b.takes(t)
	}
	wantMet(t, a, b)
}

// tag gives the n-th edit, from 0; no two of the first 4096 are alike.
func tag(op api.Op, n int) api.Op {
	return by(op, 1+n/api.MaxEdits%api.MaxClients, 1+n%api.MaxEdits)
}

// textOf gives a text of n elements, of the edits from 0 on.
func textOf(n int) []api.Elem {
	text := make([]api.Elem, n)
	for i := range text {
		op := tag(nop(), i)
		text[i] = api.Elem{Ch: byte('a' + i%26), Client: op.Client, Seq: op.Seq}
	}
	return text
}

// fitting gives every operation that fits a text of n characters.
func fitting(n int, ch byte) []api.Op {
	all := ops(nop())
	for pos := range n + 1 {
		all = append(all, ins(pos, ch))
		if pos < n {
			all = append(all, del(pos))
		}
	}
	return all
}

// choices goes through all lists of choices: each pick is one digit of a number that counts up.
type choices struct {
	digits, sizes []int
	at            int
}

// pick gives the next choice out of so many.
func (c *choices) pick(size int) int {
	if c.at == len(c.digits) {
		c.digits, c.sizes = append(c.digits, 0), append(c.sizes, size)
	}
	c.at++
	return c.digits[c.at-1]
}

// more goes to the next list of choices, if there is one.
func (c *choices) more() bool {
	c.at = 0
	for n := len(c.digits) - 1; n >= 0; n-- {
		c.digits, c.sizes = c.digits[:n+1], c.sizes[:n+1]
		if c.digits[n]++; c.digits[n] < c.sizes[n] {
			return true
		}
	}
	return false
}

// stepOf does one of all that the two sides can do next.
func stepOf(t *testing.T, c *choices, n int, a, b *end) {
	t.Helper()
	left, right := fitting(len(a.text), 'A'), fitting(len(b.text), 'B')
	var takers []*end
	for _, x := range []*end{a, b} {
		if len(x.coming) > 0 {
			takers = append(takers, x)
		}
	}
	switch k := c.pick(len(left) + len(right) + len(takers)); {
	case k < len(left):
		a.makes(t, b, tag(left[k], n))
	case k < len(left)+len(right):
		b.makes(t, a, tag(right[k-len(left)], n))
	default:
		takers[k-len(left)-len(right)].takes(t)
	}
	wantMet(t, a, b)
}

// TestTheSidesMeetInAllShortRuns plays all that can happen in a few steps, from short texts on; then both take in what comes.
func TestTheSidesMeetInAllShortRuns(t *testing.T) {
	for size, steps := range []int{5, 4, 4, 3} {
		for c, again := new(choices), true; again; again = c.more() {
			a, b := newEnd(true, textOf(size)), newEnd(false, textOf(size))
			for n := range steps {
				stepOf(t, c, size+n, a, b)
			}
			if len(c.digits)%2 == 0 {
				drain(t, a, b)
			} else {
				drain(t, b, a)
			}
		}
	}
}

// maker gives operations that fit. Each insert has an edit of its own, so that no two elements are alike.
type maker struct {
	r    *rand.Rand
	edit int // of the next insert
	most int // how many edits there are
}

func (m *maker) next(n int) api.Op {
	switch k := m.r.IntN(9); {
	case k < 5 && m.edit < m.most:
		m.edit++
		return tag(ins(m.near(n+1), byte(api.LeastCh+m.r.IntN(api.MostCh-api.LeastCh+1))), m.edit-1)
	case k < 8 && n > 0:
		return tag(del(m.near(n)), m.edit)
	}
	return tag(nop(), m.edit)
}

// near gives a place below n, often one of the first few, so that places meet.
func (m *maker) near(n int) int {
	if m.r.IntN(2) == 0 {
		return m.r.IntN(min(n, 3))
	}
	return m.r.IntN(n)
}

func TestTheSidesMeetAtRandom(t *testing.T) {
	for seed := range 400 {
		r := dice(seed)
		size, calm := r.IntN(20), 1+r.IntN(12)
		m := &maker{r: r, edit: size, most: 400}
		a, b := newEnd(true, textOf(size)), newEnd(false, textOf(size))
		for range 300 {
			x, other := a, b
			if r.IntN(2) == 0 {
				x, other = b, a
			}
			switch {
			case r.IntN(calm+2) < 2:
				x.makes(t, other, m.next(len(x.text)))
			case len(x.coming) > 0:
				x.takes(t)
			}
			wantMet(t, a, b)
			wantUnseen(t, a, b)
		}
		drain(t, a, b)
	}
}

// wantUnseen ends the test unless the queue of each side begins behind what the other had seen when it last spoke, and ends with the last that was made.
func wantUnseen(t *testing.T, a, b *end) {
	t.Helper()
	for _, x := range []*end{a, b} {
		queue := x.space.Queue()
		for i, m := range queue {
			if m.Mark != x.made-len(queue)+1+i {
				t.Fatalf("P10.7: %d made, the queue %s", x.made, words(queue))
			}
		}
		if x.space.Last() != x.made {
			t.Fatalf("P10.6: %d made, Last %d", x.made, x.space.Last())
		}
	}
}

// TestTheSidesMeetBehindTheLongestLines: each side makes all the operations that it may before either takes one in.
func TestTheSidesMeetBehindTheLongestLines(t *testing.T) {
	const begin = 1024
	a, b := newEnd(true, textOf(begin)), newEnd(false, textOf(begin))
	m := &maker{r: dice(1), edit: begin, most: api.MaxDoc}
	for range api.MaxLog {
		a.makes(t, b, m.next(len(a.text)))
		b.makes(t, a, m.next(len(b.text)))
	}
	wantKeep(t, "P10.2: one more than MaxLog", a.space, api.MaxLog+1, nop(), api.ErrMark)
	drain(t, a, b)
}

// TestTheSidesMeetInTheFullText: both fill the text up, all inserts at one place.
func TestTheSidesMeetInTheFullText(t *testing.T) {
	a, b := newEnd(true, nil), newEnd(false, nil)
	for n := range api.MaxDoc / 2 {
		a.makes(t, b, tag(ins(0, 'a'), 2*n))
		b.makes(t, a, tag(ins(0, 'b'), 2*n+1))
	}
	drain(t, b, a)
	if len(a.text) != api.MaxDoc {
		t.Fatalf("P10.7: a text of %d, want %d", len(a.text), api.MaxDoc)
	}
}

// TestTheSidesMeetOverLongLives: all the operations that a side may make, while each takes in what comes.
func TestTheSidesMeetOverLongLives(t *testing.T) {
	for seed := range 2 {
		r := dice(seed)
		a, b := newEnd(true, nil), newEnd(false, nil)
		m := &maker{r: r, most: api.MaxDoc}
		for a.made < api.MaxLog || b.made < api.MaxLog {
			x, other := a, b
			if r.IntN(2) == 0 {
				x, other = b, a
			}
			if x.made < api.MaxLog && r.IntN(5) < 2 {
				x.makes(t, other, m.next(len(x.text)))
			} else if len(x.coming) > 0 {
				x.takes(t)
			}
			wantMet(t, a, b)
		}
		drain(t, a, b)
	}
}
