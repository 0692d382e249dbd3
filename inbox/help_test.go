package inbox_test

import (
	"iter"
	"math/rand/v2"
	"slices"
	"strconv"
	"strings"
	"testing"

	"jotter/api"
	"jotter/inbox"
)

// must gives an Inbox with that reorder, or ends the test.
func must[T any](t *testing.T, reorder int) *inbox.Inbox[T] {
	t.Helper()
	x, e := inbox.New[T](reorder)
	if x == nil || e != api.OK {
		t.Fatalf("P9.1: New(%d) = %v, %d", reorder, x, e)
	}
	return x
}

// name gives the thing that goes with a number.
func name(num int) string { return "v" + strconv.Itoa(num) }

// filled gives an Inbox of texts that holds these numbers, each with its name.
func filled(t *testing.T, reorder int, nums ...int) *inbox.Inbox[string] {
	t.Helper()
	x := must[string](t, reorder)
	for _, n := range nums {
		wantPut(t, "P9.2", x, n, name(n), api.OK)
	}
	return x
}

// popped gives an Inbox of texts whose Cum is that, and that holds nothing.
func popped(t *testing.T, reorder, cum int) *inbox.Inbox[string] {
	t.Helper()
	x := must[string](t, reorder)
	for n := 1; n <= cum; n++ {
		wantPut(t, "P9.2", x, n, name(n), api.OK)
		wantPop(t, "P9.4", x, api.OK)
	}
	return x
}

// wantPut ends the test unless Put answers so.
func wantPut[T any](t *testing.T, what string, x *inbox.Inbox[T], num int, v T, want api.Errno) {
	t.Helper()
	if e := x.Put(num, v); e != want {
		t.Fatalf("%s: Put(%d) = %d, want %d", what, num, e, want)
	}
}

// wantPop ends the test unless Pop answers so.
func wantPop[T any](t *testing.T, what string, x *inbox.Inbox[T], want api.Errno) {
	t.Helper()
	if e := x.Pop(); e != want {
		t.Fatalf("%s: Pop = %d, want %d", what, e, want)
	}
}

// wantToss ends the test unless Toss answers so.
func wantToss[T any](t *testing.T, what string, x *inbox.Inbox[T], want api.Errno) {
	t.Helper()
	if e := x.Toss(); e != want {
		t.Fatalf("%s: Toss = %d, want %d", what, e, want)
	}
}

// wantHead ends the test unless that thing is the next, and here.
func wantHead[T comparable](t *testing.T, what string, x *inbox.Inbox[T], want T) {
	t.Helper()
	if v, ok := x.Head(); v != want || !ok {
		t.Fatalf("%s: Head = %v, %v, want %v, true", what, v, ok, want)
	}
}

// wantNoHead ends the test unless the next thing is not here.
func wantNoHead[T comparable](t *testing.T, what string, x *inbox.Inbox[T]) {
	t.Helper()
	var zero T
	if v, ok := x.Head(); v != zero || ok {
		t.Fatalf("%s: Head = %v, %v, want the zero thing, false", what, v, ok)
	}
}

// wantState ends the test unless Cum and Held are these.
func wantState[T any](t *testing.T, what string, x *inbox.Inbox[T], cum int, held ...int) {
	t.Helper()
	if got := x.Held(); x.Cum() != cum || !slices.Equal(got, held) {
		t.Fatalf("%s: Cum %d, Held %s, want %d, %s", what, x.Cum(), brief(numbers(got)), cum, brief(numbers(held)))
	}
}

// numbers gives a list of numbers in words.
func numbers(nums []int) string {
	words := make([]string, len(nums))
	for i, n := range nums {
		words[i] = strconv.Itoa(n)
	}
	return strings.Join(words, " ")
}

// taken goes through a sequence up to so many things, and gives them as words: each its number, a space and its thing.
func taken(seq iter.Seq2[int, string], most int) []string {
	var words []string
	if most == 0 {
		return words
	}
	for num, v := range seq {
		words = append(words, strconv.Itoa(num)+" "+v)
		if len(words) == most {
			break
		}
	}
	return words
}

// wantRun ends the test unless a sequence, gone through whole, hands out these words.
func wantRun(t *testing.T, what string, seq iter.Seq2[int, string], want ...string) {
	t.Helper()
	wantWords(t, what, taken(seq, len(want)+2), want)
}

func wantWords(t *testing.T, what string, got, want []string) {
	t.Helper()
	if !slices.Equal(got, want) {
		t.Fatalf("%s: %s, want %s", what, brief(strings.Join(got, ", ")), brief(strings.Join(want, ", ")))
	}
}

// upTo gives the numbers from one up to another.
func upTo(from, to int) []int {
	var nums []int
	for n := from; n <= to; n++ {
		nums = append(nums, n)
	}
	return nums
}

// named gives the things from one number up to another, as words.
func named(from, to int) []string {
	var words []string
	for n := from; n <= to; n++ {
		words = append(words, strconv.Itoa(n)+" "+name(n))
	}
	return words
}

// brief gives the beginning of a text, because some lists here are long.
func brief(s string) string { return s[:min(len(s), 300)] }

// dice gives numbers that look mixed, the same at every run.
func dice(seed int) *rand.Rand { return rand.New(rand.NewPCG(uint64(seed), 9)) }
