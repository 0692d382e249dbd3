package inbox_test

import (
	"math"
	"runtime"
	"slices"
	"strconv"
	"testing"
	"weak"

	"jotter/api"
	"jotter/inbox"
)

func TestNew(t *testing.T) {
	for reorder := 1; reorder <= api.MaxNum; reorder++ {
		x := must[string](t, reorder)
		wantState(t, "P9.1: a new Inbox", x, 0)
		wantNoHead(t, "P9.3: a new Inbox", x)
		wantPop(t, "P9.4: a new Inbox", x, api.ErrNext)
		wantToss(t, "P9.4: a new Inbox", x, api.ErrNext)
		wantRun(t, "P9.5: a new Inbox", x.Run())
		wantPut(t, "P9.2: the last place", x, reorder, "v", api.OK)
		if reorder < api.MaxNum {
			wantPut(t, "P9.2: beyond the last place", x, reorder+1, "v", api.ErrFar)
		}
		wantState(t, "P9.6: the last place", x, 0, reorder)
	}
	for _, reorder := range []int{0, -1, -2, -8, 4097, 4098, 8192, 65536, 1 << 32, 1<<32 + 1, math.MinInt, math.MinInt + 1, math.MaxInt} {
		if x, e := inbox.New[string](reorder); x != nil || e != api.ErrReorder {
			t.Errorf("P9.1: New(%d) = %v, %d, want nil, %d", reorder, x, e, api.ErrReorder)
		}
		if x, e := inbox.New[struct{}](reorder); x != nil || e != api.ErrReorder {
			t.Errorf("P9.1: New(%d) = %v, %d, want nil, %d", reorder, x, e, api.ErrReorder)
		}
	}
}

func TestInboxesShareNothing(t *testing.T) {
	one, two := filled(t, 3, 1, 2), filled(t, 3, 3)
	wantPop(t, "P9.4", one, api.OK)
	wantState(t, "P9.1: another Inbox", two, 0, 3)
	wantNoHead(t, "P9.1: another Inbox", two)
	two.Reset()
	wantPut(t, "P9.2: another Inbox", two, 1, "other", api.OK)
	wantState(t, "P9.1: the first Inbox", one, 1, 2)
	wantHead(t, "P9.1: the first Inbox", one, "v2")
	wantRun(t, "P9.5: another Inbox", two.Run(), "1 other")
	wantState(t, "P9.1: the first Inbox", one, 1, 2)
}

func TestTheChaptersExamples(t *testing.T) {
	x := must[string](t, 3)
	wantPut(t, "example 1", x, 2, "b", api.OK)
	wantPut(t, "example 1", x, 4, "d", api.ErrFar)
	wantPut(t, "example 1", x, 3, "c", api.OK)
	wantNoHead(t, "example 1", x)
	wantPop(t, "example 1", x, api.ErrNext)
	wantState(t, "example 1", x, 0, 2, 3)
	wantPut(t, "example 2", x, 2, "B", api.ErrTwice)
	wantPut(t, "example 2", x, 1, "a", api.OK)
	wantHead(t, "example 2", x, "a")
	wantRun(t, "example 2", x.Run(), "1 a", "2 b", "3 c")
	wantState(t, "example 2", x, 3)
	wantPut(t, "example 2", x, 3, "x", api.ErrTwice)
	wantPut(t, "example 2", x, 6, "f", api.OK)
	wantPut(t, "example 2", x, 7, "g", api.ErrFar)
	wantPut(t, "example 3", x, 4, "d", api.OK)
	wantToss(t, "example 3", x, api.OK)
	wantState(t, "example 3", x, 3, 6)
	wantToss(t, "example 3", x, api.ErrNext)
	wantPut(t, "example 3", x, 4, "D", api.OK)
	wantWords(t, "example 3", taken(x.Run(), 1), []string{"4 D"})
	wantState(t, "example 3", x, 4, 6)
	for _, num := range []int{0, -1, 4097} {
		wantPut(t, "example 4", x, num, "z", api.ErrNumber)
	}
	for _, reorder := range []int{0, 4097} {
		if y, e := inbox.New[int](reorder); y != nil || e != api.ErrReorder {
			t.Errorf("example 4: New(%d) = %v, %d", reorder, y, e)
		}
	}
	x.Reset()
	wantState(t, "example 5", x, 0)
	wantPut(t, "example 5", x, 3, "c", api.OK)
	wantPut(t, "example 5: the same reorder", x, 4, "d", api.ErrFar)
}

// places gives the numbers worth putting: all near the edges of an Inbox, and those at the ends of int.
func places(cum, reorder int) []int {
	nums := []int{math.MinInt, math.MinInt + 1, -4096, -4095, 1<<32 + 1, 1<<32 + cum + 1, 1 << 31, math.MaxInt - 1, math.MaxInt}
	for _, middle := range []int{0, cum, cum + reorder, api.MaxNum} {
		nums = append(nums, upTo(middle-2, middle+3)...)
	}
	return nums
}

// answerOf tells what Put of a number that is not held must answer.
func answerOf(num, cum, reorder int) api.Errno {
	if num < 1 || num > 4096 {
		return api.ErrNumber
	}
	if num <= cum {
		return api.ErrTwice
	}
	if num-cum > reorder {
		return api.ErrFar
	}
	return api.OK
}

// TestPutAtTheEdges puts each number that lies at an edge into an Inbox of each Cum and reorder that do.
func TestPutAtTheEdges(t *testing.T) {
	for _, reorder := range []int{1, 2, 3, 8, 100, 4095, 4096} {
		for _, cum := range []int{0, 1, 2, 8, 4093, 4094, 4095, 4096} {
			x := popped(t, reorder, cum)
			for _, num := range places(cum, reorder) {
				want := answerOf(num, cum, reorder)
				wantPut(t, "P9.2: at an edge", x, num, name(num), want)
				if want != api.OK {
					wantState(t, "P9.2: a refused Put", x, cum)
					continue
				}
				wantState(t, "P9.2: a Put", x, cum, num)
				wantPut(t, "P9.2: the same number again", x, num, "again", api.ErrTwice)
				wantState(t, "P9.2: a refused Put", x, cum, num)
				x = drop(t, x, reorder, cum, num)
			}
		}
	}
}

// drop gives the Inbox without that number, where it is the next one, or one like it, where it isn't.
func drop(t *testing.T, x *inbox.Inbox[string], reorder, cum, num int) *inbox.Inbox[string] {
	t.Helper()
	if num != cum+1 {
		wantNoHead(t, "P9.3: not the next", x)
		wantPop(t, "P9.4: not the next", x, api.ErrNext)
		wantToss(t, "P9.4: not the next", x, api.ErrNext)
		wantState(t, "P9.4: a refused one", x, cum, num)
		return popped(t, reorder, cum)
	}
	wantHead(t, "P9.2: the first one stays", x, name(num))
	wantToss(t, "P9.4", x, api.OK)
	wantState(t, "P9.4: Toss", x, cum)
	return x
}

func TestTheFirstThingStays(t *testing.T) {
	x := filled(t, 4, 1, 3)
	for _, num := range []int{1, 3} {
		for _, v := range []string{"", "other", name(num)} {
			wantPut(t, "P9.2: held", x, num, v, api.ErrTwice)
		}
	}
	wantState(t, "P9.2: refused ones", x, 0, 1, 3)
	wantPut(t, "P9.2", x, 2, "v2", api.OK)
	wantRun(t, "P9.2: the one that is held stays", x.Run(), named(1, 3)...)
	for num := 1; num <= 3; num++ {
		wantPut(t, "P9.2: popped", x, num, "other", api.ErrTwice)
	}
	wantState(t, "P9.2: refused ones", x, 3)
}

func TestAZeroThingIsHeldToo(t *testing.T) {
	x := must[int](t, 2)
	wantPut(t, "P9.2: a zero thing", x, 1, 0, api.OK)
	wantState(t, "P9.6: a zero thing", x, 0, 1)
	wantPut(t, "P9.2: a zero thing is held", x, 1, 5, api.ErrTwice)
	wantHead(t, "P9.3: a zero thing", x, 0)
	for num, v := range x.Run() {
		if num != 1 || v != 0 {
			t.Errorf("P9.5: a zero thing: %d, %d", num, v)
		}
	}
	wantState(t, "P9.5: a zero thing", x, 1)
}

func TestHeadAndPop(t *testing.T) {
	x := filled(t, 5, 2, 1, 4)
	for range 3 {
		wantHead(t, "P9.3: asked again", x, "v1")
		wantState(t, "P9.3: nothing is changed", x, 0, 1, 2, 4)
	}
	wantPop(t, "P9.4", x, api.OK)
	wantState(t, "P9.4: Pop", x, 1, 2, 4)
	wantHead(t, "P9.4: the one behind it is the next", x, "v2")
	wantPop(t, "P9.4", x, api.OK)
	for range 3 {
		wantNoHead(t, "P9.3: a gap", x)
		wantPop(t, "P9.4: a gap", x, api.ErrNext)
		wantToss(t, "P9.4: a gap", x, api.ErrNext)
		wantRun(t, "P9.5: a gap", x.Run())
		wantState(t, "P9.4: a gap", x, 2, 4)
	}
	wantPut(t, "P9.2: by Pop the buffer moves on", x, 7, "v7", api.OK)
	wantPut(t, "P9.2: by Pop the buffer moves on", x, 8, "v8", api.ErrFar)
}

func TestToss(t *testing.T) {
	x := filled(t, 3, 1, 2, 3)
	for _, v := range []string{"a", "b", "c"} {
		wantToss(t, "P9.4", x, api.OK)
		wantState(t, "P9.4: Cum stays", x, 0, 2, 3)
		wantNoHead(t, "P9.4: it is gone", x)
		wantPop(t, "P9.4: it is gone", x, api.ErrNext)
		wantToss(t, "P9.4: it is gone", x, api.ErrNext)
		wantPut(t, "P9.4: the buffer stays", x, 4, "d", api.ErrFar)
		wantPut(t, "P9.4: others are held", x, 2, "z", api.ErrTwice)
		wantPut(t, "P9.4: it may be put again", x, 1, v, api.OK)
		wantPut(t, "P9.2: but once", x, 1, "z", api.ErrTwice)
		wantHead(t, "P9.4: the new one", x, v)
	}
	wantRun(t, "P9.5: behind Toss", x.Run(), "1 c", "2 v2", "3 v3")
	wantToss(t, "P9.4: nothing is held", x, api.ErrNext)
}

func TestRunUpToEachPlace(t *testing.T) {
	for last := 0; last <= 6; last++ {
		for stop := 0; stop <= last; stop++ {
			x := filled(t, 9, append(upTo(1, last), last+2)...)
			wantWords(t, "P9.5: stopped early", taken(x.Run(), stop), named(1, stop))
			wantState(t, "P9.5: what wasn't handed out stays", x, stop, append(upTo(stop+1, last), last+2)...)
			wantRun(t, "P9.5: the rest", x.Run(), named(stop+1, last)...)
			wantState(t, "P9.5: up to the gap", x, last, last+2)
			wantPut(t, "P9.2: the gap", x, last+1, name(last+1), api.OK)
			wantRun(t, "P9.5: beyond the gap", x.Run(), named(last+1, last+2)...)
			wantState(t, "P9.5: all", x, last+2)
		}
	}
}

func TestRunAskedForAlone(t *testing.T) {
	x := filled(t, 3, 1, 2)
	seq := x.Run()
	other := x.Run()
	wantState(t, "P9.5: asking changes nothing", x, 0, 1, 2)
	wantPut(t, "P9.2", x, 3, "v3", api.OK)
	wantPop(t, "P9.4", x, api.OK)
	wantRun(t, "P9.5: what is there by then", seq, "2 v2", "3 v3")
	wantRun(t, "P9.5: nothing is left", seq)
	wantRun(t, "P9.5: nothing is left for another", other)
	wantPut(t, "P9.2", x, 4, "v4", api.OK)
	wantPut(t, "P9.2", x, 6, "v6", api.OK)
	wantRun(t, "P9.5: gone through again", seq, "4 v4")
	wantPut(t, "P9.2", x, 5, "v5", api.OK)
	wantRun(t, "P9.5: another", other, "5 v5", "6 v6")
	x.Reset()
	wantRun(t, "P9.7: nothing is there", seq)
	wantPut(t, "P9.2", x, 1, "new", api.OK)
	wantRun(t, "P9.5: behind Reset", seq, "1 new")
}

// TestRunPopsAheadOfHandingOut asks, at each thing that is handed out, what the Inbox is.
func TestRunPopsAheadOfHandingOut(t *testing.T) {
	x := filled(t, 5, 1, 2, 3, 5)
	count := 0
	for num, v := range x.Run() {
		count++
		if num != count || v != name(count) {
			t.Fatalf("P9.5: %d %s, want %d %s", num, v, count, name(count))
		}
		wantState(t, "P9.5: popped ahead of it", x, num, append(upTo(num+1, 3), 5)...)
		wantPut(t, "P9.5: popped ahead of it", x, num, "again", api.ErrTwice)
		if num < 3 {
			wantHead(t, "P9.5: the one behind it", x, name(num+1))
		}
	}
	wantState(t, "P9.5", x, 3, 5)
	if count != 3 {
		t.Errorf("P9.5: %d handed out", count)
	}
}

func TestRunSeesWhatIsPutMeanwhile(t *testing.T) {
	x := filled(t, 2, 1)
	var words []string
	for num, v := range x.Run() {
		words = append(words, strconv.Itoa(num)+" "+v)
		if num < 100 {
			if num%3 != 0 {
				x.Put(num+1, name(num+1))
			}
			wantPut(t, "P9.5: the buffer has moved on", x, num+3, "far", api.ErrFar)
			x.Put(num+2, name(num+2))
		}
	}
	wantWords(t, "P9.5: what is put meanwhile", words, named(1, 101))
	wantState(t, "P9.5", x, 101)
}

func TestRunSeesWhatIsTakenMeanwhile(t *testing.T) {
	x := filled(t, 9, 1, 2, 3, 4, 5)
	var words []string
	for num, v := range x.Run() {
		words = append(words, strconv.Itoa(num)+" "+v)
		if num == 1 {
			wantPop(t, "P9.4: within Run", x, api.OK)
		}
		if num == 3 {
			wantToss(t, "P9.4: within Run", x, api.OK)
			wantPut(t, "P9.2: within Run", x, 4, "D", api.OK)
		}
		if num == 4 {
			wantToss(t, "P9.4: within Run", x, api.OK)
		}
	}
	wantWords(t, "P9.5: each step anew", words, []string{"1 v1", "3 v3", "4 D"})
	wantState(t, "P9.5", x, 4)

	x = filled(t, 9, 1, 2, 3)
	for num := range x.Run() {
		if num != 1 {
			t.Errorf("P9.5: %d behind Reset", num)
		}
		x.Reset()
	}
	wantState(t, "P9.7: Reset within Run", x, 0)
}

func TestRunWithinRun(t *testing.T) {
	x := filled(t, 6, 1, 2, 3, 4, 6)
	seq := x.Run()
	var outer []string
	for num, v := range seq {
		outer = append(outer, strconv.Itoa(num)+" "+v)
		wantWords(t, "P9.5: the same sequence, within itself", taken(seq, 2), named(num+1, min(num+2, 4)))
	}
	wantWords(t, "P9.5: what is left to the outer one", outer, []string{"1 v1", "4 v4"})
	wantState(t, "P9.5", x, 4, 6)
}

// TestRunWithAPanicInItsTaker: what was handed out was popped, the rest stays.
func TestRunWithAPanicInItsTaker(t *testing.T) {
	x := filled(t, 3, 1, 2, 3)
	func() {
		defer func() {
			if recover() != "enough" {
				t.Error("P9.5: the taker's panic is the taker's")
			}
		}()
		for num := range x.Run() {
			if num == 2 {
				panic("enough")
			}
		}
	}()
	wantState(t, "P9.5: popped ahead of it", x, 2, 3)
	wantRun(t, "P9.5: the rest", x.Run(), "3 v3")
}

// TestAllNumbers puts all MaxNum numbers, in blocks from the last to the first, and again behind Reset.
func TestAllNumbers(t *testing.T) {
	for _, reorder := range []int{1, 3, 8, 4095, 4096} {
		x := must[string](t, reorder)
		for range 2 {
			for x.Cum() < api.MaxNum {
				from, to := x.Cum()+1, min(x.Cum()+reorder, api.MaxNum)
				for num := to; num >= from; num-- {
					wantPut(t, "P9.2: backwards", x, num, name(num), api.OK)
				}
				wantState(t, "P9.6: rising", x, from-1, upTo(from, to)...)
				wantPut(t, "P9.2: all are held", x, from, "z", api.ErrTwice)
				wantRun(t, "P9.5: a full buffer", x.Run(), named(from, to)...)
				wantState(t, "P9.5: a full buffer", x, to)
			}
			wantPut(t, "P9.2: no number is left", x, 4097, "z", api.ErrNumber)
			wantPut(t, "P9.2: all were popped", x, 4096, "z", api.ErrTwice)
			wantPut(t, "P9.2: all were popped", x, 1, "z", api.ErrTwice)
			wantNoHead(t, "P9.3: no number is left", x)
			wantPop(t, "P9.4: no number is left", x, api.ErrNext)
			wantToss(t, "P9.4: no number is left", x, api.ErrNext)
			wantRun(t, "P9.5: no number is left", x.Run())
			wantState(t, "P9.6: all", x, api.MaxNum)
			x.Reset()
			wantState(t, "P9.7", x, 0)
		}
	}
}

func TestReset(t *testing.T) {
	for reorder := 1; reorder <= 5; reorder++ {
		for cum := 0; cum <= 6; cum++ {
			x := popped(t, reorder, cum)
			for num := cum + 1; num <= cum+reorder; num += 2 {
				wantPut(t, "P9.2", x, num, "old", api.OK)
			}
			x.Reset()
			x.Reset()
			wantState(t, "P9.7: Reset", x, 0)
			wantNoHead(t, "P9.7: Reset", x)
			wantPop(t, "P9.7: Reset", x, api.ErrNext)
			wantToss(t, "P9.7: Reset", x, api.ErrNext)
			wantRun(t, "P9.7: Reset", x.Run())
			wantPut(t, "P9.7: the same reorder", x, reorder+1, "far", api.ErrFar)
			for num := reorder; num >= 1; num-- {
				wantPut(t, "P9.7: all again", x, num, name(num), api.OK)
			}
			wantState(t, "P9.7: all again", x, 0, upTo(1, reorder)...)
			wantRun(t, "P9.7: all again", x.Run(), named(1, reorder)...)
		}
	}
}

// TestHeldIsTheCallersOwn writes into each list, appends to it and writes into its spare room.
func TestHeldIsTheCallersOwn(t *testing.T) {
	x := filled(t, 9, 5, 3, 9)
	list, other := x.Held(), x.Held()
	spare := append(list, 77, 77)
	spare = append(spare[:cap(list)], 77)
	for i := range spare {
		spare[i] = 77
	}
	for i := range list {
		list[i] = 77
	}
	if !slices.Equal(other, []int{3, 5, 9}) {
		t.Errorf("P9.6: another list: %v", other)
	}
	wantState(t, "P9.6: a new list", x, 0, 3, 5, 9)
	for _, num := range []int{1, 2, 4, 6, 7, 8} {
		wantPut(t, "P9.2", x, num, name(num), api.OK)
	}
	wantRun(t, "P9.5", x.Run(), named(1, 9)...)
	if !slices.Equal(other, []int{3, 5, 9}) {
		t.Errorf("P9.6: a list stays as it was answered: %v", other)
	}
}

// TestHeldIsRising puts the same numbers in many orders.
func TestHeldIsRising(t *testing.T) {
	for seed := range 200 {
		r := dice(seed)
		x := must[string](t, 40)
		var nums []int
		for _, i := range r.Perm(40)[:r.IntN(41)] {
			wantPut(t, "P9.2", x, i+1, "v", api.OK)
			nums = append(nums, i+1)
			slices.Sort(nums)
			wantState(t, "P9.6: rising", x, 0, nums...)
		}
	}
}

func TestAskingChangesNothing(t *testing.T) {
	x := filled(t, 4, 1, 2, 4)
	wantPop(t, "P9.4", x, api.OK)
	for range 5 {
		wantHead(t, "P9.3", x, "v2")
		wantState(t, "P9.6", x, 1, 2, 4)
		x.Run()
	}
	wantRun(t, "P9.5", x.Run(), "2 v2")
}

// same puts one thing, and a zero thing behind it, and fails the test unless they come back as they are, from Head and Run.
func same[T comparable](t *testing.T, what string, v T) {
	t.Helper()
	x := must[T](t, 2)
	var zero T
	wantNoHead(t, "P9.3: "+what, x)
	wantPut(t, "P9.2: "+what, x, 2, zero, api.OK)
	wantNoHead(t, "P9.3: "+what, x)
	wantPut(t, "P9.2: "+what, x, 1, v, api.OK)
	wantPut(t, "P9.2: "+what, x, 1, zero, api.ErrTwice)
	wantHead(t, "P9.3: "+what, x, v)
	wantState(t, "P9.6: "+what, x, 0, 1, 2)
	want := []T{v, zero}
	for num, got := range x.Run() {
		if num < 1 || num > 2 || got != want[num-1] {
			t.Fatalf("P9.5: %s: %d, %v", what, num, got)
		}
	}
	wantState(t, "P9.5: "+what, x, 2)
	wantNoHead(t, "P9.3: "+what, x)
}

func TestThingsOfManyTypes(t *testing.T) {
	same(t, "an int", math.MinInt)
	same(t, "a byte", byte(255))
	same(t, "a float", math.Inf(-1))
	same(t, "a complex number", complex(1, -2))
	same(t, "a text", "a text")
	same(t, "a bool", true)
	same(t, "nothing", struct{}{})
	same(t, "an array", [3]int{1, 2, 3})
	same(t, "a long array", [100]int{99: 7})
	same(t, "a struct", api.Marked{Mark: 3, Op: api.Op{Kind: api.Insert, Pos: 1, Ch: 'x', Client: 2, Seq: 4}})
	same(t, "a pointer", new(int))
	same(t, "a channel", make(chan int))
	same(t, "an error", error(api.ErrFar))
	same(t, "anything", any("a text in it"))
}

func TestThingsThatCannotBeCompared(t *testing.T) {
	f := must[func() int](t, 1)
	wantPut(t, "P9.2: a function", f, 1, func() int { return 5 }, api.OK)
	if v, ok := f.Head(); !ok || v == nil || v() != 5 {
		t.Errorf("P9.3: a function: %v", ok)
	}
	m := must[map[string]int](t, 1)
	held := map[string]int{"a": 1}
	wantPut(t, "P9.2: a map", m, 1, held, api.OK)
	held["a"] = 2
	if v, ok := m.Head(); !ok || v["a"] != 2 {
		t.Errorf("P9.3: a map is held as it is: %v, %v", v, ok)
	}
	n := must[float64](t, 1)
	wantPut(t, "P9.2: no number", n, 1, math.NaN(), api.OK)
	wantPut(t, "P9.2: no number", n, 1, math.NaN(), api.ErrTwice)
	if v, ok := n.Head(); !ok || !math.IsNaN(v) {
		t.Errorf("P9.3: no number: %v, %v", v, ok)
	}
	wantPop(t, "P9.4: no number", n, api.OK)
	wantState(t, "P9.4: no number", n, 1)
	lists := must[any](t, 1)
	wantPut(t, "P9.2: a list as anything", lists, 1, any([]int{1}), api.OK)
	wantPut(t, "P9.2: a list as anything", lists, 1, any([]int{1}), api.ErrTwice)
	if v, ok := lists.Head(); !ok || v.([]int)[0] != 1 {
		t.Errorf("P9.3: a list as anything: %v, %v", v, ok)
	}
	wantToss(t, "P9.4: a list as anything", lists, api.OK)
}

// TestThingsAreCopiedAsValues: an array is held by itself, a slice and a pointer lead to what is the caller's.
func TestThingsAreCopiedAsValues(t *testing.T) {
	arrays := must[[2]string](t, 1)
	a := [2]string{"a", "b"}
	wantPut(t, "P9.2: an array", arrays, 1, a, api.OK)
	a[0] = "wrong"
	got, _ := arrays.Head()
	got[1] = "wrong"
	wantHead(t, "P9.2: an array is held by itself", arrays, [2]string{"a", "b"})
	bytes := must[[]byte](t, 1)
	b := []byte("ab")
	wantPut(t, "P9.2: a slice", bytes, 1, b, api.OK)
	b[0] = 'x'
	if got, ok := bytes.Head(); !ok || string(got) != "xb" || &got[0] != &b[0] || cap(got) != cap(b) {
		t.Errorf("P9.2: a slice is held as it is: %q", got)
	}
	pointers := must[*int](t, 1)
	n := 5
	wantPut(t, "P9.2: a pointer", pointers, 1, &n, api.OK)
	n = 6
	if got, ok := pointers.Head(); !ok || got != &n || *got != 6 {
		t.Errorf("P9.2: a pointer is held as it is: %v", got)
	}
}

// heavy is a thing that the collector of memory can be asked about.
type heavy struct {
	name  string
	bytes [200]byte
}

// putHeavy puts new things that nobody else holds, and gives weak hands on them.
func putHeavy(t *testing.T, x *inbox.Inbox[*heavy], nums ...int) []weak.Pointer[heavy] {
	t.Helper()
	var hands []weak.Pointer[heavy]
	for _, num := range nums {
		v := &heavy{name: name(num)}
		wantPut(t, "P9.2", x, num, v, api.OK)
		hands = append(hands, weak.Make(v))
	}
	return hands
}

// wantAlive fails the test unless just the things from that place on are held by somebody.
func wantAlive(t *testing.T, what string, hands []weak.Pointer[heavy], from int) {
	t.Helper()
	held := func(h weak.Pointer[heavy]) bool { return h.Value() != nil }
	for range 20 {
		runtime.GC()
		if !slices.ContainsFunc(hands[:from], held) {
			break
		}
	}
	for i, h := range hands {
		if held(h) != (i >= from) {
			t.Errorf("%s: thing %d of %d: held is %v", what, i+1, len(hands), held(h))
		}
	}
}

// runHeavy goes through so many things, and holds none of them.
func runHeavy(x *inbox.Inbox[*heavy], most int) {
	for range x.Run() {
		if most--; most == 0 {
			break
		}
	}
}

func TestWhatIsTakenOutIsNotHeld(t *testing.T) {
	for _, reorder := range []int{10, 4096} {
		x := must[*heavy](t, reorder)
		hands := putHeavy(t, x, upTo(1, 10)...)
		wantAlive(t, "P9.2: all are held", hands, 0)
		wantPop(t, "P9.4", x, api.OK)
		wantAlive(t, "P9.4: Pop", hands, 1)
		wantToss(t, "P9.4", x, api.OK)
		wantAlive(t, "P9.4: Toss", hands, 2)
		wantPut(t, "P9.2: a refused thing", x, 3, &heavy{}, api.ErrTwice)
		again := putHeavy(t, x, 2)
		runHeavy(x, 3)
		wantAlive(t, "P9.5: handed out", hands, 4)
		wantAlive(t, "P9.5: handed out", again, 1)
		x.Reset()
		wantAlive(t, "P9.7: nothing is held", hands, len(hands))
		runtime.KeepAlive(x)
	}
}
