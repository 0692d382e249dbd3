package tap_test

import (
	"errors"
	"fmt"
	"math"
	"math/rand/v2"
	"slices"
	"testing"

	"jotter/api"
	"jotter/doc"
	"jotter/tap"
	"jotter/wire"
)

// far are numbers that no client, and no address, has.
func far() []int { return []int{math.MinInt, -1 << 32, -64, -1, 65, 256, 1 << 32, math.MaxInt} }

func ins(pos int, ch byte, client, seq int) api.Op {
	return api.Op{Kind: api.Insert, Pos: pos, Ch: ch, Client: client, Seq: seq}
}

func del(pos, client, seq int) api.Op {
	return api.Op{Kind: api.Delete, Pos: pos, Client: client, Seq: seq}
}

func nop(client, seq int) api.Op { return api.Op{Client: client, Seq: seq} }

func made(tag int, op api.Op) api.Edit { return api.Edit{Tag: tag, Op: op} }

// The messages of epoch 1, by their kinds; client is the one that they come from or go to.

func hello(client int) api.Msg {
	return api.Msg{Kind: api.MHello, Epoch: 1, Client: client, First: 1}
}

func edit(client, num, tag int, op api.Op) api.Msg {
	return api.Msg{Kind: api.MEdit, Epoch: 1, Client: client, Num: num, Tag: tag, Op: op}
}

func nod(client int) api.Msg { return api.Msg{Kind: api.MNod, Epoch: 1, Client: client} }

func inv(client int) api.Msg { return api.Msg{Kind: api.MInvite, Epoch: 1, Client: client} }

func rec(client, num, rev int, op api.Op) api.Msg {
	return api.Msg{Kind: api.MRecord, Epoch: 1, Client: client, Num: num, Rev: rev, Op: op}
}

func beat(client int) api.Msg { return api.Msg{Kind: api.MBeat, Epoch: 1, Client: client} }

// in gives the message in another epoch.
func in(epoch int, m api.Msg) api.Msg {
	m.Epoch = epoch
	return m
}

// allKinds gives a message of each kind, from or to that client.
func allKinds(client int) []api.Msg {
	return []api.Msg{hello(client), edit(client, 1, 0, ins(0, 'a', client, 1)), nod(client), inv(client), rec(client, 1, 1, ins(0, 'a', client, 1)), beat(client)}
}

func bytesOf(t *testing.T, m api.Msg) []byte {
	t.Helper()
	b, err := wire.Encode(m)
	if err != nil {
		t.Fatalf("%+v is no message: %v", m, err)
	}
	return b
}

// toServer tells which way a message goes.
func toServer(m api.Msg) bool {
	return m.Kind == api.MHello || m.Kind == api.MEdit || m.Kind == api.MNod
}

// sent gives the datagram of a message, the way that it goes.
func sent(t *testing.T, m api.Msg) api.Datagram {
	t.Helper()
	if toServer(m) {
		return api.Datagram{From: m.Client, Bytes: bytesOf(t, m)}
	}
	return api.Datagram{To: m.Client, Bytes: bytesOf(t, m)}
}

func newTap(t *testing.T, clients int) *tap.Tap {
	t.Helper()
	x, e := tap.New(clients)
	if x == nil || e != api.OK {
		t.Fatalf("P28.1: New(%d) = %v, %d", clients, x != nil, e)
	}
	return x
}

// tapOf gives a tap that saw these messages, each of which it must take.
func tapOf(t *testing.T, clients int, list ...api.Msg) *tap.Tap {
	t.Helper()
	x := newTap(t, clients)
	for _, m := range list {
		mustSee(t, x, m)
	}
	return x
}

// witness is whoever can be asked what he knows.
type witness interface {
	Epoch() int
	Records() []api.Op
	Known() []int
	Doc() []api.Elem
	Made(client int) []api.Edit
	Waiting(client int) []api.Edit
}

// sight is all that a witness knows, the edits of some clients.
type sight struct {
	epoch         int
	known         []int
	records       []api.Op
	text          []api.Elem
	made, waiting [][]api.Edit
}

func sightOf(w witness, clients ...int) sight {
	s := sight{epoch: w.Epoch(), known: w.Known(), records: w.Records(), text: w.Doc()}
	for _, c := range clients {
		s.made = append(s.made, w.Made(c))
		s.waiting = append(s.waiting, w.Waiting(c))
	}
	return s
}

// wholeSight asks for every client that there can be.
func wholeSight(w witness) sight {
	var all []int
	for c := -1; c <= api.MaxClients+1; c++ {
		all = append(all, c)
	}
	return sightOf(w, all...)
}

// same tells whether two sights are the same; a nil list is an empty one.
func same(a, b sight) bool {
	return a.epoch == b.epoch && slices.Equal(a.known, b.known) && slices.Equal(a.records, b.records) && slices.Equal(a.text, b.text) &&
		slices.EqualFunc(a.made, b.made, slices.Equal[[]api.Edit]) && slices.EqualFunc(a.waiting, b.waiting, slices.Equal[[]api.Edit])
}

// word tells a thing, and keeps it readable.
func word(x any) string {
	s := fmt.Sprintf("%+v", x)
	if len(s) > 1500 {
		return s[:1500] + ".."
	}
	return s
}

// isFault tells whether an error is a Fault with just that number, and that place.
func isFault(err error, at int, want api.Errno) bool {
	var fault *api.Fault
	return errors.As(err, &fault) && fault.At == at && fault.Err == want
}

// mustSee ends the test unless the message is taken.
func mustSee(t *testing.T, x *tap.Tap, m api.Msg) {
	t.Helper()
	mustTake(t, x, sent(t, m))
}

func mustTake(t *testing.T, x *tap.Tap, g api.Datagram) {
	t.Helper()
	if err := x.See(g); err != nil {
		t.Fatalf("P28.2: See(%+v): %v", g, err)
	}
}

// wantNo ends the test unless the message is refused so, and changes nothing.
func wantNo(t *testing.T, x *tap.Tap, m api.Msg, at int, want api.Errno) {
	t.Helper()
	wantRefused(t, x, sent(t, m), at, want)
}

// wantAstray is of a message between addresses that need not be its own.
func wantAstray(t *testing.T, x *tap.Tap, m api.Msg, from, to int, want api.Errno) {
	t.Helper()
	wantRefused(t, x, api.Datagram{From: from, To: to, Bytes: bytesOf(t, m)}, 0, want)
}

func wantRefused(t *testing.T, x *tap.Tap, g api.Datagram, at int, want api.Errno) {
	t.Helper()
	before := wholeSight(x)
	if err := x.See(g); !isFault(err, at, want) {
		t.Fatalf("P28.2: See(%+v): %v, want %d at %d", g, err, want, at)
	}
	if after := wholeSight(x); !same(after, before) {
		t.Fatalf("P28.2: See(%+v) is refused and changes %s into %s", g, word(before), word(after))
	}
}

// wantNoNews ends the test unless the message is taken, and nothing is known behind it that was not known ahead of it.
func wantNoNews(t *testing.T, x *tap.Tap, m api.Msg) {
	t.Helper()
	before := wholeSight(x)
	mustSee(t, x, m)
	if after := wholeSight(x); !same(after, before) {
		t.Fatalf("P28.2: See(%+v) proves nothing new and changes %s into %s", m, word(before), word(after))
	}
}

func wantEpoch(t *testing.T, x *tap.Tap, want int) {
	t.Helper()
	if n := x.Epoch(); n != want {
		t.Fatalf("P28.3: Epoch() = %d, want %d", n, want)
	}
}

func wantKnown(t *testing.T, x *tap.Tap, want ...int) {
	t.Helper()
	if revs := x.Known(); !slices.Equal(revs, want) {
		t.Fatalf("P28.4: Known() = %v, want %v", revs, want)
	}
}

func wantRecords(t *testing.T, x *tap.Tap, text string, want ...api.Op) {
	t.Helper()
	if ops := x.Records(); !slices.Equal(ops, want) {
		t.Fatalf("P28.5: Records() = %s, want %s", word(ops), word(want))
	}
	d, n, e := doc.Replay(want...)
	if got := x.Doc(); n != len(want) || e != api.OK || !doc.Equal(got, d) || doc.Text(got) != text {
		t.Fatalf("P28.5: Doc() = %s, want %s, %q", word(got), word(d), text)
	}
}

func wantMade(t *testing.T, x *tap.Tap, client int, want ...api.Edit) {
	t.Helper()
	if list := x.Made(client); !slices.Equal(list, want) {
		t.Fatalf("P28.6: Made(%d) = %s, want %s", client, word(list), word(want))
	}
}

func wantWaiting(t *testing.T, x *tap.Tap, client int, want ...api.Edit) {
	t.Helper()
	if list := x.Waiting(client); !slices.Equal(list, want) {
		t.Fatalf("P28.6: Waiting(%d) = %s, want %s", client, word(list), word(want))
	}
}

// wantNothing ends the test unless nothing is known.
func wantNothing(t *testing.T, x *tap.Tap) {
	t.Helper()
	wantEpoch(t, x, 0)
	wantKnown(t, x)
	wantRecords(t, x, "")
	for c := -1; c <= api.MaxClients+1; c++ {
		wantMade(t, x, c)
		wantWaiting(t, x, c)
	}
}

// dice gives numbers that look mixed, the same at every run.
func dice(seed int) *rand.Rand { return rand.New(rand.NewPCG(uint64(seed), 28)) }

func pick[T any](r *rand.Rand, list ...T) T { return list[r.IntN(len(list))] }

// shuffled gives a mixed copy of a list.
func shuffled[T any](r *rand.Rand, list []T) []T {
	own := slices.Clone(list)
	r.Shuffle(len(own), func(i, j int) { own[i], own[j] = own[j], own[i] })
	return own
}

// orders gives a list in all its orders.
func orders[T any](list []T) [][]T {
	if len(list) == 0 {
		return [][]T{nil}
	}
	var all [][]T
	for i := range list {
		rest := slices.Delete(slices.Clone(list), i, i+1)
		for _, o := range orders(rest) {
			all = append(all, append([]T{list[i]}, o...))
		}
	}
	return all
}
