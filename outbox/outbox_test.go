package outbox_test

import (
	"math"
	"runtime"
	"strconv"
	"testing"
	"weak"

	"jotter/api"
	"jotter/outbox"
)

func TestNew(t *testing.T) {
	for w := 1; w <= api.MaxNum; w++ {
		x := must[string](t, w)
		wantNumbers(t, "P8.1: a new Outbox", x, 0, 0, 0)
		wantItems(t, "P8.1: Left of a new Outbox", x.Left())
		wantItems(t, "P8.1: Due of a new Outbox", x.Due())
		wantNumbers(t, "P8.3: Due of none", x, 0, 0, 0)
		wantAck(t, "P8.4: nothing was due", x, 0, api.OK)
		wantAck(t, "P8.4: nothing was due", x, 1, api.ErrAck)
	}
	for _, w := range []int{0, -1, -2, -8, 4097, 4098, 8192, 65536, 1 << 32, 1<<32 + 1, math.MinInt, math.MinInt + 1, math.MaxInt} {
		if x, e := outbox.New[string](w); x != nil || e != api.ErrWindowSize {
			t.Errorf("P8.1: New(%d) = %v, %d, want nil, %d", w, x, e, api.ErrWindowSize)
		}
		if x, e := outbox.New[struct{}](w); x != nil || e != api.ErrWindowSize {
			t.Errorf("P8.1: New(%d) = %v, %d, want nil, %d", w, x, e, api.ErrWindowSize)
		}
	}
}

func TestOutboxesShareNothing(t *testing.T) {
	one, two := filled(t, 2, "a", "b"), filled(t, 2, "x")
	one.Due()
	wantAck(t, "P8.4", one, 1, api.OK)
	wantNumbers(t, "P8.1: another Outbox", two, 0, 0, 1)
	wantItems(t, "P8.1: another Outbox", two.Left(), "1 x")
	two.Reset()
	wantPush(t, "P8.6", two, "y", 1)
	wantItems(t, "P8.1: the first Outbox", one.Left(), "2 b")
	wantNumbers(t, "P8.1: the first Outbox", one, 1, 2, 2)
}

func TestTheChaptersExamples(t *testing.T) {
	x := filled(t, 2, "a", "b", "c")
	wantItems(t, "example 1: Left", x.Left(), "1 a", "2 b", "3 c")
	wantNumbers(t, "example 1", x, 0, 0, 3)
	wantAck(t, "example 1", x, 1, api.ErrAck)
	wantItems(t, "example 2: Due", x.Due(), "1 a", "2 b")
	wantNumbers(t, "example 2", x, 0, 2, 3)
	wantAck(t, "example 2", x, 3, api.ErrAck)
	wantItems(t, "example 2: Due again", x.Due(), "1 a", "2 b")
	wantAck(t, "example 3", x, 1, api.OK)
	wantNumbers(t, "example 3", x, 1, 2, 3)
	wantItems(t, "example 3: Due", x.Due(), "2 b", "3 c")
	wantNumbers(t, "example 3", x, 1, 3, 3)
	for _, n := range []int{0, 1} {
		wantAck(t, "example 3", x, n, api.OK)
		wantNumbers(t, "example 3: an old one", x, 1, 3, 3)
		wantItems(t, "example 3: an old one", x.Left(), "2 b", "3 c")
	}
	wantAck(t, "example 3", x, -1, api.ErrAck)
	wantAck(t, "example 3", x, 4, api.ErrAck)
	wantNumbers(t, "example 3: refused ones", x, 1, 3, 3)
	wantAck(t, "example 4", x, 3, api.OK)
	wantItems(t, "example 4: Left", x.Left())
	wantItems(t, "example 4: Due", x.Due())
	wantNumbers(t, "example 4", x, 3, 3, 3)
	wantPush(t, "example 4", x, "d", 4)
	wantAck(t, "example 4", x, 4, api.ErrAck)
	wantItems(t, "example 4: Due", x.Due(), "4 d")
	x.Reset()
	wantNumbers(t, "example 5", x, 0, 0, 0)
	wantItems(t, "example 5: Left", x.Left())
	wantPush(t, "example 5", x, "e", 1)
	wantItems(t, "example 5: Due", x.Due(), "1 e")
}

func TestAllNumbersAreGivenOnce(t *testing.T) {
	for _, w := range []int{1, 8, api.MaxNum - 1, api.MaxNum} {
		x := filled(t, w, many(api.MaxNum)...)
		wantNoPush(t, "P8.2: all numbers are used", x, "z")
		wantNumbers(t, "P8.2: a refused Push", x, 0, 0, api.MaxNum)
		wantItems(t, "P8.2: a refused Push", x.Left(), numbered(1, api.MaxNum)...)
		wantItems(t, "P8.3: a window", x.Due(), numbered(1, w)...)
		wantNumbers(t, "P8.3: a window", x, 0, w, api.MaxNum)
		wantNoPush(t, "P8.2: a window is due", x, "z")
		for x.Acked() < api.MaxNum {
			acked := x.Acked()
			x.Due()
			wantAck(t, "P8.4: all that were due", x, x.Sent(), api.OK)
			if x.Acked() <= acked {
				t.Fatalf("P8.4: Acked stays %d", acked)
			}
			wantNoPush(t, "P8.2: a number is given once", x, "z")
		}
		wantItems(t, "P8.4: all are gone", x.Left())
		wantItems(t, "P8.4: all are gone", x.Due())
		wantNumbers(t, "P8.4: all are gone", x, api.MaxNum, api.MaxNum, api.MaxNum)
		wantAck(t, "P8.4: all are gone", x, api.MaxNum, api.OK)
		wantAck(t, "P8.4: beyond MaxNum", x, api.MaxNum+1, api.ErrAck)
		x.Reset()
		wantNumbers(t, "P8.6", x, 0, 0, 0)
		for i, v := range many(api.MaxNum) {
			wantPush(t, "P8.6: all numbers again", x, v, i+1)
		}
		wantNoPush(t, "P8.6: all numbers are used again", x, "z")
		wantItems(t, "P8.6: the window stays", x.Due(), numbered(1, w)...)
	}
}

func TestTheLastNumberWithAnEmptyOutbox(t *testing.T) {
	x := must[string](t, 1)
	for n := 1; n <= api.MaxNum; n++ {
		wantPush(t, "P8.2: one at a time", x, "v"+strconv.Itoa(n), n)
		wantAck(t, "P8.4: not due yet", x, n, api.ErrAck)
		wantItems(t, "P8.3: one at a time", x.Due(), numbered(n, n)...)
		wantAck(t, "P8.4: one at a time", x, n, api.OK)
		wantNumbers(t, "P8.4: one at a time", x, n, n, n)
		wantItems(t, "P8.4: one at a time", x.Left())
	}
	wantNoPush(t, "P8.2: a number is given once", x, "z")
	wantNumbers(t, "P8.2: a refused Push", x, api.MaxNum, api.MaxNum, api.MaxNum)
	wantItems(t, "P8.2: a refused Push", x.Left())
}

// TestWindows goes through small windows, numbers of things and acknowledgements, each with each.
func TestWindows(t *testing.T) {
	for w := 1; w <= 6; w++ {
		for last := 0; last <= 9; last++ {
			for n := -1; n <= last+2; n++ {
				x := filled(t, w, many(last)...)
				due := min(w, last)
				wantItems(t, "P8.5: Left ahead of Due", x.Left(), numbered(1, last)...)
				wantNumbers(t, "P8.5: Left changes nothing", x, 0, 0, last)
				wantItems(t, "P8.3: Due", x.Due(), numbered(1, due)...)
				wantItems(t, "P8.3: Due again", x.Due(), numbered(1, due)...)
				wantNumbers(t, "P8.3: Due", x, 0, due, last)
				wantItems(t, "P8.5: Left behind Due", x.Left(), numbered(1, last)...)
				wantNumbers(t, "P8.5: Left changes nothing", x, 0, due, last)
				if n < 0 || n > due {
					wantAck(t, "P8.4: never due", x, n, api.ErrAck)
					wantNumbers(t, "P8.4: a refused Ack", x, 0, due, last)
					wantItems(t, "P8.4: a refused Ack", x.Left(), numbered(1, last)...)
					continue
				}
				wantAck(t, "P8.4", x, n, api.OK)
				wantNumbers(t, "P8.4", x, n, due, last)
				wantItems(t, "P8.4: Left", x.Left(), numbered(n+1, last)...)
				wantItems(t, "P8.4: Due", x.Due(), numbered(n+1, min(n+w, last))...)
				wantNumbers(t, "P8.3: Due behind an Ack", x, n, min(n+w, last), last)
			}
		}
	}
}

func TestDueTakesWhatCameLater(t *testing.T) {
	x := filled(t, 3, "a")
	wantItems(t, "P8.3", x.Due(), "1 a")
	wantPush(t, "P8.2", x, "b", 2)
	wantNumbers(t, "P8.2: a Push is not due", x, 0, 1, 2)
	wantAck(t, "P8.4: never due", x, 2, api.ErrAck)
	wantItems(t, "P8.3", x.Due(), "1 a", "2 b")
	wantPush(t, "P8.2", x, "c", 3)
	wantPush(t, "P8.2", x, "d", 4)
	wantItems(t, "P8.3: a full window", x.Due(), "1 a", "2 b", "3 c")
	wantAck(t, "P8.4: beyond the window", x, 4, api.ErrAck)
	wantAck(t, "P8.4", x, 2, api.OK)
	wantNumbers(t, "P8.4: Sent stays", x, 2, 3, 4)
	wantAck(t, "P8.4: left, but never due", x, 4, api.ErrAck)
	wantItems(t, "P8.3", x.Due(), "3 c", "4 d")
	wantAck(t, "P8.4: due by now", x, 4, api.OK)
	wantNumbers(t, "P8.4", x, 4, 4, 4)
}

func TestAcksThatCannotBe(t *testing.T) {
	wrong := []int{-1, -2, -3, 4, 5, 6, 255, 256, 4095, 4096, 4097, 1 << 31, 1 << 32, 1<<32 + 1, 1<<32 + 2, math.MaxInt - 1, math.MaxInt, math.MinInt, math.MinInt + 1, math.MinInt + 2}
	x := filled(t, 3, many(5)...)
	for _, n := range append(wrong, 1, 2, 3) {
		wantAck(t, "P8.4: nothing was due", x, n, api.ErrAck)
	}
	x.Due()
	for _, n := range wrong {
		wantAck(t, "P8.4: never due", x, n, api.ErrAck)
		wantNumbers(t, "P8.4: a refused Ack", x, 0, 3, 5)
		wantItems(t, "P8.4: a refused Ack", x.Left(), numbered(1, 5)...)
	}
	wantAck(t, "P8.4", x, 2, api.OK)
	for _, n := range wrong {
		wantAck(t, "P8.4: never due", x, n, api.ErrAck)
		wantNumbers(t, "P8.4: a refused Ack", x, 2, 3, 5)
	}
	for n := range 3 {
		wantAck(t, "P8.4: an old Ack", x, n, api.OK)
		wantNumbers(t, "P8.4: an old Ack", x, 2, 3, 5)
		wantItems(t, "P8.4: an old Ack", x.Left(), numbered(3, 5)...)
	}
}

func TestReset(t *testing.T) {
	for w := 1; w <= 4; w++ {
		for acked := 0; acked <= w; acked++ {
			x := filled(t, w, "a", "b", "c", "d", "e")
			x.Due()
			wantAck(t, "P8.4", x, acked, api.OK)
			x.Reset()
			x.Reset()
			wantNumbers(t, "P8.6: Reset", x, 0, 0, 0)
			wantItems(t, "P8.6: Reset, Left", x.Left())
			wantItems(t, "P8.6: Reset, Due", x.Due())
			wantAck(t, "P8.6: nothing was due since", x, 1, api.ErrAck)
			wantAck(t, "P8.6: nothing was due since", x, 0, api.OK)
			for i, v := range many(5) {
				wantPush(t, "P8.6: from 1 again", x, v, i+1)
			}
			wantAck(t, "P8.6: nothing was due since", x, 1, api.ErrAck)
			wantItems(t, "P8.6: the window stays", x.Due(), numbered(1, w)...)
			wantNumbers(t, "P8.6: the window stays", x, 0, w, 5)
		}
	}
}

// TestListsAreTheCallersOwn writes into each list, appends to it and writes into its spare room.
func TestListsAreTheCallersOwn(t *testing.T) {
	x := filled(t, 2, "a", "b", "c")
	wrong := outbox.Item[string]{Num: 77, What: "wrong"}
	left, left2, due, due2 := x.Left(), x.Left(), x.Due(), x.Due()
	for _, list := range [][]outbox.Item[string]{left, due} {
		spare := append(list, wrong, wrong)
		spare = append(spare[:cap(list)], wrong)
		for i := range spare {
			spare[i] = wrong
		}
		for i := range list {
			list[i] = wrong
		}
	}
	wantItems(t, "P8.7: another Left", left2, "1 a", "2 b", "3 c")
	wantItems(t, "P8.7: another Due", due2, "1 a", "2 b")
	wantItems(t, "P8.7: Left", x.Left(), "1 a", "2 b", "3 c")
	wantItems(t, "P8.7: Due", x.Due(), "1 a", "2 b")
	wantPush(t, "P8.7: a Push", x, "d", 4)
	wantNumbers(t, "P8.7", x, 0, 2, 4)
	wantItems(t, "P8.7: Left", x.Left(), "1 a", "2 b", "3 c", "4 d")
}

func TestListsStayAsTheyWereAnswered(t *testing.T) {
	x := filled(t, 3, "a", "b", "c", "d")
	left, due := x.Left(), x.Due()
	wantAck(t, "P8.4", x, 2, api.OK)
	later := x.Due()
	wantPush(t, "P8.2", x, "e", 5)
	x.Due()
	wantAck(t, "P8.4", x, 4, api.OK)
	x.Reset()
	for _, v := range []string{"p", "q", "r", "s"} {
		x.Push(v)
	}
	wantItems(t, "P8.7: Left", left, "1 a", "2 b", "3 c", "4 d")
	wantItems(t, "P8.7: Due", due, "1 a", "2 b", "3 c")
	wantItems(t, "P8.7: a later Due", later, "3 c", "4 d")
}

func TestAskingChangesNothing(t *testing.T) {
	x := filled(t, 2, "a", "b", "c")
	x.Due()
	wantAck(t, "P8.4", x, 1, api.OK)
	for range 5 {
		wantItems(t, "P8.5: Left", x.Left(), "2 b", "3 c")
		wantNumbers(t, "P8.5: Left", x, 1, 2, 3)
	}
	wantAck(t, "P8.5: Left is not Due", x, 3, api.ErrAck)
}

// same pushes one thing and fails the test unless it comes back as it is, from Left and Due.
func same[T comparable](t *testing.T, what string, v T) {
	t.Helper()
	x := must[T](t, 2)
	var zero T
	wantPush(t, what, x, v, 1)
	wantPush(t, what, x, zero, 2)
	for _, list := range [][]outbox.Item[T]{x.Left(), x.Due()} {
		want := []outbox.Item[T]{{Num: 1, What: v}, {Num: 2, What: zero}}
		if len(list) != 2 || list[0] != want[0] || list[1] != want[1] {
			t.Errorf("P8.2: %s: %v, want %v", what, list, want)
		}
	}
	wantAck(t, what, x, 1, api.OK)
	if list := x.Due(); len(list) != 1 || list[0].Num != 2 || list[0].What != zero {
		t.Errorf("P8.4: %s: %v", what, list)
	}
}

func TestThingsOfManyTypes(t *testing.T) {
	same(t, "an int", math.MinInt)
	same(t, "a byte", byte(255))
	same(t, "a float", math.Inf(-1))
	same(t, "a complex number", complex(1, -2))
	same(t, "a text", "a text")
	same(t, "a bool", true)
	same(t, "nothing", struct{}{})
	same(t, "an array", [3]int{1, 2, 3})
	same(t, "a struct", api.Marked{Mark: 3, Op: api.Op{Kind: api.Insert, Pos: 1, Ch: 'x', Client: 2, Seq: 4}})
	same(t, "a pointer", new(int))
	same(t, "a channel", make(chan int))
	same(t, "an error", error(api.ErrAck))
	same(t, "anything", any("a text in it"))
	same(t, "an Item", outbox.Item[string]{Num: 9, What: "within"})
}

func TestThingsThatCannotBeCompared(t *testing.T) {
	f := must[func() int](t, 1)
	wantPush(t, "a function", f, func() int { return 5 }, 1)
	if list := f.Due(); len(list) != 1 || list[0].What() != 5 {
		t.Errorf("P8.2: a function: %v", list)
	}
	m := must[map[string]int](t, 1)
	held := map[string]int{"a": 1}
	wantPush(t, "a map", m, held, 1)
	held["a"] = 2
	if list := m.Left(); len(list) != 1 || list[0].What["a"] != 2 {
		t.Errorf("P8.2: a map is kept as it is: %v", list)
	}
	n := must[float64](t, 1)
	wantPush(t, "no number", n, math.NaN(), 1)
	if list := n.Due(); len(list) != 1 || !math.IsNaN(list[0].What) {
		t.Errorf("P8.2: no number: %v", list)
	}
}

// TestThingsAreCopiedAsValues: an array is kept by itself, a slice and a pointer lead to what is the caller's.
func TestThingsAreCopiedAsValues(t *testing.T) {
	arrays := must[[2]string](t, 1)
	a := [2]string{"a", "b"}
	wantPush(t, "an array", arrays, a, 1)
	a[0] = "wrong"
	arrays.Left()[0].What[1] = "wrong"
	if got := arrays.Due()[0].What; got != [2]string{"a", "b"} {
		t.Errorf("P8.2: an array is kept by itself: %v", got)
	}
	slices := must[[]byte](t, 1)
	b := []byte("ab")
	wantPush(t, "a slice", slices, b, 1)
	b[0] = 'x'
	if got := slices.Due()[0].What; string(got) != "xb" || &got[0] != &b[0] || cap(got) != cap(b) {
		t.Errorf("P8.2: a slice is kept as it is: %q", got)
	}
	pointers := must[*int](t, 1)
	n := 5
	wantPush(t, "a pointer", pointers, &n, 1)
	n = 6
	if got := pointers.Due()[0].What; got != &n || *got != 6 {
		t.Errorf("P8.2: a pointer is kept as it is: %v", got)
	}
}

// heavy is a thing that the collector of memory can be asked about.
type heavy struct {
	name  string
	bytes [200]byte
}

// pushHeavy pushes new things that nobody else holds, and gives weak hands on them.
func pushHeavy(t *testing.T, x *outbox.Outbox[*heavy], count int) []weak.Pointer[heavy] {
	t.Helper()
	var hands []weak.Pointer[heavy]
	for i := range count {
		v := &heavy{name: strconv.Itoa(i)}
		wantPush(t, "P8.2", x, v, i+1)
		hands = append(hands, weak.Make(v))
	}
	return hands
}

// wantHeld fails the test unless just the things from that place on are held by somebody.
func wantHeld(t *testing.T, what string, hands []weak.Pointer[heavy], from int) {
	t.Helper()
	gone := func() bool {
		for _, h := range hands[:from] {
			if h.Value() != nil {
				return false
			}
		}
		return true
	}
	for range 20 {
		runtime.GC()
		if gone() {
			break
		}
	}
	for i, h := range hands {
		if held := h.Value() != nil; held != (i >= from) {
			t.Errorf("%s: thing %d of %d: held is %v", what, i+1, len(hands), held)
		}
	}
}

func TestWhatIsAcknowledgedIsNotHeld(t *testing.T) {
	x := must[*heavy](t, 4)
	hands := pushHeavy(t, x, 6)
	x.Due()
	wantHeld(t, "P8.2: all are kept", hands, 0)
	wantAck(t, "P8.4", x, 3, api.OK)
	wantHeld(t, "P8.4: gone for ever", hands, 3)
	x.Due()
	wantAck(t, "P8.4", x, 5, api.OK)
	wantHeld(t, "P8.4: gone for ever", hands, 5)
	x.Reset()
	wantHeld(t, "P8.6: nothing is left", hands, 6)
	runtime.KeepAlive(x)
}
