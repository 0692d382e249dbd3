package net_test

import (
	"math/rand/v2"
	"strconv"
	"strings"
	"testing"

	"jotter/api"
	"jotter/net"
)

// must gives a Net of so many clients, or ends the test.
func must(t *testing.T, clients int) *net.Net {
	t.Helper()
	x, e := net.New(clients)
	if x == nil || e != api.OK {
		t.Fatalf("P7.1: New(%d) = %v, %d", clients, x, e)
	}
	return x
}

// wantErr fails the test unless a call answered that number.
func wantErr(t *testing.T, what string, got, want api.Errno) {
	t.Helper()
	if got != want {
		t.Errorf("%s = %d, want %d", what, got, want)
	}
}

// told gives a datagram as words: From>To, the bytes in quotes, and a ! if it is spoilt.
func told(g api.Datagram) string {
	s := strconv.Itoa(g.From) + ">" + strconv.Itoa(g.To) + " " + strconv.QuoteToASCII(string(g.Bytes))
	if g.Spoilt {
		s += "!"
	}
	return s
}

func toldAll(all []api.Datagram) string {
	words := make([]string, len(all))
	for i, g := range all {
		words[i] = told(g)
	}
	return strings.Join(words, ", ")
}

// wantFlight ends the test unless just these are in flight, the oldest first.
func wantFlight(t *testing.T, what string, x *net.Net, want ...string) {
	t.Helper()
	all := strings.Join(want, ", ")
	if got := toldAll(x.Flight()); got != all || x.Count() != len(want) {
		t.Fatalf("%s: Count %d, Flight %s, want %d, %s", what, x.Count(), brief(got), len(want), brief(all))
	}
}

// brief gives the beginning of a text, because some flights here are long.
func brief(s string) string { return s[:min(len(s), 300)] }

func wantDeliver(t *testing.T, what string, x *net.Net, i int, want string) {
	t.Helper()
	g, e := x.Deliver(i)
	if e != api.OK || told(g) != want {
		t.Errorf("%s: Deliver(%d) = %s, %d, want %s", what, i, told(g), e, want)
	}
}

// wantNone fails the test unless every call that speaks of the i-th answers that there is none.
func wantNone(t *testing.T, x *net.Net, i int) {
	t.Helper()
	g, e := x.Deliver(i)
	wantErr(t, "P7.3: Deliver of none", e, api.ErrNone)
	if g.From != 0 || g.To != 0 || len(g.Bytes) != 0 || g.Spoilt {
		t.Errorf("P7.3: Deliver(%d) answers %s beside its error", i, told(g))
	}
	wantErr(t, "P7.4: Drop of none", x.Drop(i), api.ErrNone)
	wantErr(t, "P7.5: Double of none", x.Double(i), api.ErrNone)
	wantErr(t, "P7.6: Flip of none", x.Flip(i, 0, 1), api.ErrNone)
	wantErr(t, "P7.6: Flip of none, at no place", x.Flip(i, -1, 0), api.ErrNone)
}

// send puts one datagram into flight, or ends the test.
func send(t *testing.T, x *net.Net, from, to int, b string) {
	t.Helper()
	if e := x.Send(from, to, []byte(b)); e != api.OK {
		t.Fatalf("P7.2: Send(%d, %d, %q) = %d", from, to, b, e)
	}
}

// three gives the Net of the chapter's examples, with the first three datagrams in flight.
func three(t *testing.T) *net.Net {
	t.Helper()
	x := must(t, 2)
	send(t, x, 0, 1, "ab")
	send(t, x, 0, 2, "c")
	wantErr(t, "P7.2: Send of nil", x.Send(2, 0, nil), api.OK)
	return x
}

// fill puts datagrams into flight until it is full; the words tell them.
func fill(t *testing.T, x *net.Net) []string {
	t.Helper()
	var words []string
	for i := range api.MaxFlight {
		b := string([]byte{byte(i), byte(i >> 8)})
		send(t, x, 0, 1, b)
		words = append(words, told(api.Datagram{To: 1, Bytes: []byte(b)}))
	}
	return words
}

// dice gives numbers that look mixed, the same at every run.
func dice(seed int) *rand.Rand { return rand.New(rand.NewPCG(uint64(seed), 7)) }

func some(r *rand.Rand, n int) []byte {
	b := make([]byte, n)
	for i := range b {
		b[i] = byte(r.Uint32())
	}
	return b
}
