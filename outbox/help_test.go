package outbox_test

import (
	"math/rand/v2"
	"strconv"
	"strings"
	"testing"

	"jotter/api"
	"jotter/outbox"
)

// must gives an Outbox with that window, or ends the test.
func must[T any](t *testing.T, window int) *outbox.Outbox[T] {
	t.Helper()
	x, e := outbox.New[T](window)
	if x == nil || e != api.OK {
		t.Fatalf("P8.1: New(%d) = %v, %d", window, x, e)
	}
	return x
}

// filled gives an Outbox of texts with these things in it.
func filled(t *testing.T, window int, things ...string) *outbox.Outbox[string] {
	t.Helper()
	x := must[string](t, window)
	for i, v := range things {
		wantPush(t, "P8.2", x, v, i+1)
	}
	return x
}

// many gives so many things, each unlike the others.
func many(n int) []string {
	things := make([]string, n)
	for i := range things {
		things[i] = "v" + strconv.Itoa(i+1)
	}
	return things
}

// wantPush ends the test unless the thing gets that number.
func wantPush[T any](t *testing.T, what string, x *outbox.Outbox[T], v T, want int) {
	t.Helper()
	if n, e := x.Push(v); n != want || e != api.OK {
		t.Fatalf("%s: Push = %d, %d, want %d, %d", what, n, e, want, api.OK)
	}
}

// wantNoPush fails the test unless all numbers are used.
func wantNoPush[T any](t *testing.T, what string, x *outbox.Outbox[T], v T) {
	t.Helper()
	if n, e := x.Push(v); n != 0 || e != api.ErrNumbers {
		t.Errorf("%s: Push = %d, %d, want 0, %d", what, n, e, api.ErrNumbers)
	}
}

func wantAck[T any](t *testing.T, what string, x *outbox.Outbox[T], n int, want api.Errno) {
	t.Helper()
	if e := x.Ack(n); e != want {
		t.Errorf("%s: Ack(%d) = %d, want %d", what, n, e, want)
	}
}

// told gives items as words: each its number, a space and its thing.
func told(items []outbox.Item[string]) string {
	words := make([]string, len(items))
	for i, v := range items {
		words[i] = strconv.Itoa(v.Num) + " " + v.What
	}
	return strings.Join(words, ", ")
}

// brief gives the beginning of a text, because some lists here are long.
func brief(s string) string { return s[:min(len(s), 300)] }

// wantItems ends the test unless the items are these words.
func wantItems(t *testing.T, what string, got []outbox.Item[string], want ...string) {
	t.Helper()
	all := strings.Join(want, ", ")
	if s := told(got); s != all || len(got) != len(want) {
		t.Fatalf("%s: %d: %s, want %d: %s", what, len(got), brief(s), len(want), brief(all))
	}
}

// wantNumbers ends the test unless the three numbers are these.
func wantNumbers[T any](t *testing.T, what string, x *outbox.Outbox[T], acked, sent, last int) {
	t.Helper()
	if x.Acked() != acked || x.Sent() != sent || x.Last() != last {
		t.Fatalf("%s: Acked %d, Sent %d, Last %d, want %d, %d, %d", what, x.Acked(), x.Sent(), x.Last(), acked, sent, last)
	}
}

// numbered gives the things from one number up to another, as words.
func numbered(from, to int) []string {
	var words []string
	for n := from; n <= to; n++ {
		words = append(words, strconv.Itoa(n)+" v"+strconv.Itoa(n))
	}
	return words
}

// dice gives numbers that look mixed, the same at every run.
func dice(seed int) *rand.Rand { return rand.New(rand.NewPCG(uint64(seed), 8)) }
