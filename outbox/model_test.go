package outbox_test

import (
	"math/rand/v2"
	"strconv"
	"strings"
	"testing"

	"jotter/api"
	"jotter/outbox"
)

// parcel is a thing of the model, with what has happened to it.
type parcel struct {
	what string
	due  bool // ever
	gone bool
}

// model is an Outbox told in the plainest way: all things that got a number, none ever taken out.
type model struct {
	window int
	all    []parcel // the first has number 1
}

func (m *model) push(v string) (int, api.Errno) {
	if len(m.all) == 4096 {
		return 0, api.ErrNumbers
	}
	m.all = append(m.all, parcel{what: v})
	return len(m.all), api.OK
}

func (m *model) ack(n int) api.Errno {
	if n == 0 {
		return api.OK
	}
	if n < 0 || n > len(m.all) || !m.all[n-1].due {
		return api.ErrAck
	}
	for i := range n {
		m.all[i].gone = true
	}
	return api.OK
}

func (m *model) dueNow() []string {
	var words []string
	for i := range m.all {
		if m.all[i].gone || len(words) == m.window {
			continue
		}
		m.all[i].due = true
		words = append(words, strconv.Itoa(i+1)+" "+m.all[i].what)
	}
	return words
}

func (m *model) left() []string {
	var words []string
	for i, p := range m.all {
		if !p.gone {
			words = append(words, strconv.Itoa(i+1)+" "+p.what)
		}
	}
	return words
}

// numbers gives Acked, Sent and Last.
func (m *model) numbers() (int, int, int) {
	acked, sent := 0, 0
	for i, p := range m.all {
		if p.gone {
			acked = i + 1
		}
		if p.due {
			sent = i + 1
		}
	}
	return acked, sent, len(m.all)
}

// wantSame ends the test unless all that can be asked without a change is alike in both.
func wantSame(t *testing.T, what string, x *outbox.Outbox[string], m *model) {
	t.Helper()
	acked, sent, last := m.numbers()
	wantNumbers(t, what, x, acked, sent, last)
	wantItems(t, what, x.Left(), m.left()...)
	if x.Acked() < 0 || x.Acked() > x.Sent() || x.Sent() > x.Last() || x.Last() > api.MaxNum {
		t.Fatalf("%s: Acked %d, Sent %d, Last %d", what, x.Acked(), x.Sent(), x.Last())
	}
}

// pushBoth pushes one thing into both, and fails the test where they answer differently.
func pushBoth(t *testing.T, x *outbox.Outbox[string], m *model, v string) {
	t.Helper()
	n, e := x.Push(v)
	if want, wantE := m.push(v); n != want || e != wantE {
		t.Fatalf("P8.2: Push = %d, %d, want %d, %d", n, e, want, wantE)
	}
}

// playOne does one call to both, and fails the test where they answer differently.
func playOne(t *testing.T, r *rand.Rand, x *outbox.Outbox[string], m *model) {
	t.Helper()
	switch r.IntN(12) {
	case 0, 1, 2, 3, 4:
		pushBoth(t, x, m, "v"+strconv.Itoa(r.IntN(100)))
	case 5, 6, 7:
		_, sent, last := m.numbers()
		n := r.IntN(last+4) - 2
		if r.IntN(2) == 0 {
			n = max(0, sent-r.IntN(4))
		}
		wantAck(t, "P8.4: against the model", x, n, m.ack(n))
	case 8, 9, 10:
		wantItems(t, "P8.3: Due against the model", x.Due(), m.dueNow()...)
	default:
		if r.IntN(8) == 0 {
			x.Reset()
			m.all = nil
		}
	}
}

func TestAgainstModel(t *testing.T) {
	for seed := range 400 {
		r := dice(seed)
		w := 1 + r.IntN(9)
		x, m := must[string](t, w), &model{window: w}
		for range 200 {
			playOne(t, r, x, m)
			wantSame(t, "P8.5: against the model", x, m)
		}
	}
}

func TestAgainstModelNearTheLimit(t *testing.T) {
	for i, w := range []int{1, 8, 100, 4095, 4096} {
		r := dice(i)
		x, m := must[string](t, w), &model{window: w}
		for range api.MaxNum - 10 {
			pushBoth(t, x, m, "v")
		}
		for range 60 {
			if x.Last() < api.MaxNum-10 {
				break
			}
			playOne(t, r, x, m)
			wantSame(t, "P8.5: against the model near the limit", x, m)
		}
	}
}

// callOne does the call of that number to both, and gives what it answered in words.
func callOne(t *testing.T, call int, x *outbox.Outbox[string], m *model) string {
	t.Helper()
	switch call {
	case 0:
		pushBoth(t, x, m, "v"+strconv.Itoa(len(m.all)))
		return strconv.Itoa(x.Last())
	case 1:
		list := x.Due()
		wantItems(t, "P8.3: Due", list, m.dueNow()...)
		return told(list)
	case 2:
		x.Reset()
		m.all = nil
		return "reset"
	}
	n := call - 4
	e := x.Ack(n)
	if want := m.ack(n); e != want {
		t.Fatalf("P8.4: Ack(%d) = %d, want %d", n, e, want)
	}
	return strconv.Itoa(int(e))
}

// TestAllShortRuns plays every list of six calls, of eight kinds: Push, Due, Reset, and Ack of -1 to 3.
func TestAllShortRuns(t *testing.T) {
	const kinds, length = 8, 6
	for w := 1; w <= 3; w++ {
		for run := range 1 << (3 * length) {
			x, m := must[string](t, w), &model{window: w}
			for rest, i := run, 0; i < length; rest, i = rest/kinds, i+1 {
				callOne(t, rest%kinds, x, m)
			}
			wantSame(t, "P8.8: behind a short run", x, m)
		}
	}
}

func TestSameCallsSameAnswers(t *testing.T) {
	for seed := range 50 {
		var heard [2]strings.Builder
		for i := range heard {
			r := dice(seed)
			x, m := must[string](t, 3), &model{window: 3}
			other := must[string](t, 3)
			for range 200 {
				call := r.IntN(12)
				if call > 8 {
					call = 0
				}
				heard[i].WriteString(callOne(t, call, x, m) + ";" + told(x.Left()) + "\n")
				if i == 1 {
					other.Push("noise")
					other.Due()
				}
			}
		}
		if heard[0].String() != heard[1].String() {
			t.Fatalf("P8.8: the same calls, and other answers: %s and %s", brief(heard[0].String()), brief(heard[1].String()))
		}
	}
}

// TestOverALossyLink: what is due is sent at each tick; some of it, and some acknowledgements, are lost or late.
func TestOverALossyLink(t *testing.T) {
	for seed := range 40 {
		r := dice(seed)
		x := filled(t, 1+r.IntN(8), many(100)...)
		came, acks := 0, []int{0}
		for range 10_000 {
			for _, v := range x.Due() {
				if r.IntN(3) > 0 && v.Num == came+1 && v.What == "v"+strconv.Itoa(v.Num) {
					came++
				}
			}
			acks = append(acks, came)
			wantAck(t, "P8.4: what has come was due", x, acks[r.IntN(len(acks))], api.OK)
			if r.IntN(3) == 0 {
				wantAck(t, "P8.4: what has come was due", x, came, api.OK)
			}
			if came == 100 && x.Acked() == 100 {
				break
			}
		}
		wantNumbers(t, "P8.3: all have come", x, 100, 100, 100)
		wantItems(t, "P8.3: all have come", x.Due())
	}
}
