package inbox_test

import (
	"math/rand/v2"
	"slices"
	"strconv"
	"strings"
	"testing"

	"jotter/api"
	"jotter/inbox"
)

// parcel is a thing of the model, with its number.
type parcel struct {
	num  int
	what string
}

// model is an Inbox told in the plainest way: a list of what waits, and a list of what was popped.
type model struct {
	reorder int
	waits   []parcel // in the order in which they came
	popped  []parcel
}

// where gives the place of a number in a list, or -1.
func where(list []parcel, num int) int {
	return slices.IndexFunc(list, func(p parcel) bool { return p.num == num })
}

func (m *model) put(num int, v string) api.Errno {
	if num < 1 || num > 4096 {
		return api.ErrNumber
	}
	if where(m.waits, num) >= 0 || where(m.popped, num) >= 0 {
		return api.ErrTwice
	}
	if num-len(m.popped) > m.reorder {
		return api.ErrFar
	}
	m.waits = append(m.waits, parcel{num, v})
	return api.OK
}

func (m *model) head() (string, bool) {
	i := where(m.waits, len(m.popped)+1)
	if i < 0 {
		return "", false
	}
	return m.waits[i].what, true
}

// take takes the next one out of what waits; popped tells whether it counts from now on.
func (m *model) take(popped bool) api.Errno {
	i := where(m.waits, len(m.popped)+1)
	if i < 0 {
		return api.ErrNext
	}
	if popped {
		m.popped = append(m.popped, m.waits[i])
	}
	m.waits = slices.Delete(m.waits, i, i+1)
	return api.OK
}

// run pops up to so many, and gives them as words.
func (m *model) run(most int) []string {
	var words []string
	for len(words) < most && m.take(true) == api.OK {
		last := m.popped[len(m.popped)-1]
		words = append(words, strconv.Itoa(last.num)+" "+last.what)
	}
	return words
}

func (m *model) held() []int {
	var nums []int
	for _, p := range m.waits {
		nums = append(nums, p.num)
	}
	slices.Sort(nums)
	return nums
}

func (m *model) reset() { *m = model{reorder: m.reorder} }

// wantSame ends the test unless all that can be asked without a change is alike in both.
func wantSame(t *testing.T, what string, x *inbox.Inbox[string], m *model) {
	t.Helper()
	wantState(t, what, x, len(m.popped), m.held()...)
	v, ok := x.Head()
	if want, wantOK := m.head(); v != want || ok != wantOK {
		t.Fatalf("%s: Head = %q, %v, want %q, %v", what, v, ok, want, wantOK)
	}
	if n := len(x.Held()); n > m.reorder {
		t.Fatalf("%s: %d are held, with reorder %d", what, n, m.reorder)
	}
}

// playOne does one call to both, and fails the test where they answer differently; it gives the answer in words.
func playOne(t *testing.T, r *rand.Rand, x *inbox.Inbox[string], m *model) string {
	t.Helper()
	switch r.IntN(20) {
	case 0, 1, 2:
		want := m.take(true)
		wantPop(t, "P9.4: against the model", x, want)
		return strconv.Itoa(int(want))
	case 3:
		want := m.take(false)
		wantToss(t, "P9.4: against the model", x, want)
		return strconv.Itoa(int(want))
	case 4, 5:
		most := 1 + r.IntN(6)
		words := taken(x.Run(), most)
		wantWords(t, "P9.5: against the model", words, m.run(most))
		return strings.Join(words, ", ")
	case 6:
		if r.IntN(10) == 0 {
			x.Reset()
			m.reset()
		}
		return ""
	}
	num := len(m.popped) + r.IntN(m.reorder+6) - 2
	if r.IntN(3) == 0 {
		num = len(m.popped) + 1
	}
	v := "v" + strconv.Itoa(r.IntN(1000))
	want := m.put(num, v)
	wantPut(t, "P9.2: against the model", x, num, v, want)
	return strconv.Itoa(int(want))
}

func TestAgainstModel(t *testing.T) {
	for seed := range 400 {
		r := dice(seed)
		reorder := 1 + r.IntN(12)
		x, m := must[string](t, reorder), &model{reorder: reorder}
		for range 300 {
			playOne(t, r, x, m)
			wantSame(t, "P9.6: against the model", x, m)
		}
	}
}

func TestAgainstModelNearTheLimit(t *testing.T) {
	for i, reorder := range []int{1, 8, 100, 4095, 4096} {
		r := dice(i)
		x, m := popped(t, reorder, api.MaxNum-10), &model{reorder: reorder}
		for n := 1; n <= api.MaxNum-10; n++ {
			m.popped = append(m.popped, parcel{n, name(n)})
		}
		for range 200 {
			if len(m.popped) < api.MaxNum-10 {
				break
			}
			num := api.MaxNum - 12 + r.IntN(16)
			wantPut(t, "P9.2: near the limit", x, num, name(num), m.put(num, name(num)))
			playOne(t, r, x, m)
			wantSame(t, "P9.6: near the limit", x, m)
		}
	}
}

// callOne does the call of that number to both.
func callOne(t *testing.T, call, step int, x *inbox.Inbox[string], m *model) {
	t.Helper()
	switch call {
	case 0:
		wantPop(t, "P9.4: a short run", x, m.take(true))
	case 1:
		wantToss(t, "P9.4: a short run", x, m.take(false))
	case 2:
		wantWords(t, "P9.5: a short run", taken(x.Run(), 99), m.run(99))
	case 3:
		wantWords(t, "P9.5: a short run, stopped", taken(x.Run(), 1), m.run(1))
	case 4:
		x.Reset()
		m.reset()
	default:
		v := "v" + strconv.Itoa(step)
		wantPut(t, "P9.2: a short run", x, call-4, v, m.put(call-4, v))
	}
}

// TestAllShortRuns plays every list of six calls, of eight kinds: Pop, Toss, Run, Run stopped at its first, Reset, and Put of 1 to 3.
func TestAllShortRuns(t *testing.T) {
	const kinds, length = 8, 6
	for reorder := 1; reorder <= 3; reorder++ {
		for run := range 1 << (3 * length) {
			x, m := must[string](t, reorder), &model{reorder: reorder}
			for rest, i := run, 0; i < length; rest, i = rest/kinds, i+1 {
				callOne(t, rest%kinds, i, x, m)
			}
			wantSame(t, "P9.6: behind a short run", x, m)
		}
	}
}

func TestSameCallsSameAnswers(t *testing.T) {
	for seed := range 50 {
		var heard [2]strings.Builder
		for i := range heard {
			r := dice(seed)
			x, m := must[string](t, 7), &model{reorder: 7}
			other := must[string](t, 7)
			for k := range 300 {
				heard[i].WriteString(playOne(t, r, x, m) + ";" + strconv.Itoa(x.Cum()) + ";" + numbers(x.Held()) + "\n")
				if i == 1 {
					other.Put(1+k%9, "noise")
					other.Pop()
				}
			}
		}
		if heard[0].String() != heard[1].String() {
			t.Fatalf("P0.1: the same calls, and other answers: %s and %s", brief(heard[0].String()), brief(heard[1].String()))
		}
	}
}

// TestOverALossyLink: all of 1 to n are put again and again, mixed, some lost, and what is there is popped.
func TestOverALossyLink(t *testing.T) {
	for seed := range 60 {
		r := dice(seed)
		n := 1 + r.IntN(120)
		x := must[string](t, 1+r.IntN(8))
		var words []string
		for range 10_000 {
			for _, i := range r.Perm(n) {
				num := i + 1
				if r.IntN(3) == 0 {
					continue
				}
				next := num == x.Cum()+1
				if e := x.Put(num, name(num)); next && e != api.OK && e != api.ErrTwice {
					t.Fatalf("P9.2: the next number, %d, is refused: %d", num, e)
				}
				if r.IntN(4) == 0 {
					words = append(words, taken(x.Run(), 1+r.IntN(9))...)
				}
			}
			if x.Cum() == n {
				break
			}
		}
		wantWords(t, "P9.5: each once, in order", words, named(1, n)[:len(words)])
		wantState(t, "P9.6: all have come", x, n)
		wantWords(t, "P9.5: each once, in order", words, named(1, n))
	}
}

// TestTossedThingsComeAgain: a taker that throws some things out gets, with each number, the first that was taken since.
func TestTossedThingsComeAgain(t *testing.T) {
	for seed := range 60 {
		r := dice(seed)
		x := must[string](t, 4)
		waits := map[int]string{}
		for step := 0; x.Cum() < 50 && step < 100_000; step++ {
			num, v := x.Cum()+r.IntN(6), "t"+strconv.Itoa(step)
			if x.Put(num, v) == api.OK {
				waits[num] = v
			}
			v, ok := x.Head()
			if !ok {
				continue
			}
			if v != waits[x.Cum()+1] {
				t.Fatalf("P9.2: with %d stands %q, want %q", x.Cum()+1, v, waits[x.Cum()+1])
			}
			if r.IntN(2) == 0 {
				wantToss(t, "P9.4", x, api.OK)
				continue
			}
			wantPop(t, "P9.4", x, api.OK)
		}
		if x.Cum() != 50 {
			t.Fatalf("P9.4: Cum %d, want 50", x.Cum())
		}
	}
}
