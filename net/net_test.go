package net_test

import (
	"bytes"
	"math"
	"slices"
	"strconv"
	"testing"

	"jotter/api"
	"jotter/net"
)

func TestNew(t *testing.T) {
	for n := 1; n <= api.MaxClients; n++ {
		x := must(t, n)
		wantFlight(t, "P7.1: a new Net", x)
		wantNone(t, x, 0)
		wantErr(t, "P7.2: to the last client", x.Send(0, n, nil), api.OK)
		wantErr(t, "P7.2: from the last client", x.Send(n, 0, nil), api.OK)
		wantErr(t, "P7.2: to one more", x.Send(0, n+1, nil), api.ErrAddress)
		wantErr(t, "P7.2: from one more", x.Send(n+1, 0, nil), api.ErrAddress)
	}
	for _, n := range []int{0, -1, 65, 66, 128, 256, 257, 1<<32 + 1, math.MinInt, math.MinInt + 1, math.MaxInt} {
		if x, e := net.New(n); x != nil || e != api.ErrClients {
			t.Errorf("P7.1: New(%d) = %v, %d, want nil, %d", n, x, e, api.ErrClients)
		}
	}
}

func TestNetsShareNothing(t *testing.T) {
	one, two := must(t, 2), must(t, 2)
	send(t, one, 0, 1, "ab")
	wantFlight(t, "P7.1: another Net", two)
	send(t, two, 2, 0, "xy")
	one.Flip(0, 0, 3)
	one.Double(0)
	wantFlight(t, "P7.1: another Net", two, `2>0 "xy"`)
	two.Drop(0)
	wantFlight(t, "P7.1: the first Net", one, `0>1 "bb"!`, `0>1 "bb"!`)
}

func TestSendAddresses(t *testing.T) {
	x := must(t, 3)
	ends := []int{math.MinInt, -4, -3, -2, -1, 0, 1, 2, 3, 4, 5, 64, 65, 256, 257, 1 << 32, 1<<32 + 1, math.MaxInt}
	var want []string
	for _, from := range ends {
		for _, to := range ends {
			honest := from == 0 && to >= 1 && to <= 3 || to == 0 && from >= 1 && from <= 3
			if honest {
				wantErr(t, "P7.2: Send", x.Send(from, to, []byte("x")), api.OK)
				want = append(want, strconv.Itoa(from)+">"+strconv.Itoa(to)+` "x"`)
				continue
			}
			wantErr(t, "P7.2: Send from "+strconv.Itoa(from)+" to "+strconv.Itoa(to), x.Send(from, to, []byte("x")), api.ErrAddress)
			wantErr(t, "P7.2: too long, and no address", x.Send(from, to, make([]byte, 65)), api.ErrAddress)
		}
	}
	wantFlight(t, "P7.2: those that were OK alone", x, want...)
}

func TestSendLengths(t *testing.T) {
	x := must(t, 1)
	r := dice(1)
	var want []string
	for n := range api.MaxFrame + 1 {
		b := some(r, n)
		wantErr(t, "P7.2: Send of so many bytes", x.Send(0, 1, b), api.OK)
		want = append(want, told(api.Datagram{To: 1, Bytes: b}))
	}
	for _, n := range []int{65, 66, 128, 255, 256, 257, 320, 1 << 16, 1 << 20} {
		wantErr(t, "P7.2: Send of too many bytes", x.Send(0, 1, make([]byte, n)), api.ErrBytes)
	}
	wantErr(t, "P7.2: Send of nil", x.Send(1, 0, nil), api.OK)
	wantErr(t, "P7.2: Send of none", x.Send(1, 0, []byte{}), api.OK)
	wantFlight(t, "P7.2: all lengths", x, append(want, `1>0 ""`, `1>0 ""`)...)
}

func TestTheChaptersExamples(t *testing.T) {
	x := three(t)
	wantFlight(t, "example 1", x, `0>1 "ab"`, `0>2 "c"`, `2>0 ""`)
	for _, a := range [][2]int{{0, 0}, {1, 2}, {1, 1}, {0, 3}, {-1, 0}, {3, 0}} {
		wantErr(t, "example 1: Send", x.Send(a[0], a[1], []byte("x")), api.ErrAddress)
	}
	wantErr(t, "example 1: 65 bytes", x.Send(0, 1, make([]byte, 65)), api.ErrBytes)
	wantErr(t, "example 1: 65 bytes to nobody", x.Send(0, 3, make([]byte, 65)), api.ErrAddress)
	wantErr(t, "example 1: 64 bytes", x.Send(1, 0, make([]byte, 64)), api.OK)
	wantErr(t, "example 1: Drop", x.Drop(3), api.OK)
	wantErr(t, "example 2: Double", x.Double(0), api.OK)
	wantFlight(t, "example 2", x, `0>1 "ab"`, `0>2 "c"`, `2>0 ""`, `0>1 "ab"`)
	wantErr(t, "example 2: Flip", x.Flip(0, 1, 3), api.OK)
	wantFlight(t, "example 2", x, `0>1 "aa"!`, `0>2 "c"`, `2>0 ""`, `0>1 "ab"`)
	wantErr(t, "example 2: Flip again", x.Flip(0, 0, 1), api.ErrSpoilt)
	for _, f := range [][3]int{{0, 2, 1}, {0, -1, 1}, {0, 0, 0}, {0, 0, 256}, {2, 0, 1}} {
		wantErr(t, "example 2: Flip", x.Flip(f[0], f[1], f[2]), api.ErrFlip)
	}
	wantErr(t, "example 2: Flip", x.Flip(4, 9, 0), api.ErrNone)
	wantErr(t, "example 2: Flip", x.Flip(-1, 0, 1), api.ErrNone)
	wantDeliver(t, "example 3", x, 1, `0>2 "c"`)
	_, e := x.Deliver(3)
	wantErr(t, "example 3: Deliver", e, api.ErrNone)
	wantErr(t, "example 3: Double", x.Double(0), api.OK)
	wantErr(t, "example 3: Flip of a copy", x.Flip(3, 0, 1), api.ErrSpoilt)
	wantErr(t, "example 3: Flip of a copy", x.Flip(3, 0, 0), api.ErrFlip)
	wantFlight(t, "example 3", x, `0>1 "aa"!`, `2>0 ""`, `0>1 "ab"`, `0>1 "aa"!`)
	wantErr(t, "example 4: Drop", x.Drop(0), api.OK)
	wantErr(t, "example 4: Drop", x.Drop(0), api.OK)
	wantFlight(t, "example 4", x, `0>1 "ab"`, `0>1 "aa"!`)
	wantDeliver(t, "example 4", x, 0, `0>1 "ab"`)
	wantDeliver(t, "example 4", x, 0, `0>1 "aa"!`)
	wantNone(t, x, 0)
	wantFlight(t, "example 4", x)
}

func TestDeliverAndDropKeepTheOrderOfOthers(t *testing.T) {
	for i := range 5 {
		all := []string{`0>1 "v"`, `1>0 "w"`, `0>2 "x"`, `2>0 "y"`, `0>1 "z"`}
		one, two := must(t, 2), must(t, 2)
		for _, x := range []*net.Net{one, two} {
			send(t, x, 0, 1, "v")
			send(t, x, 1, 0, "w")
			send(t, x, 0, 2, "x")
			send(t, x, 2, 0, "y")
			send(t, x, 0, 1, "z")
		}
		wantDeliver(t, "P7.3: one of five", one, i, all[i])
		wantErr(t, "P7.4: Drop of one of five", two.Drop(i), api.OK)
		left := append(slices.Delete(all, i, i+1), `2>0 "new"`)
		send(t, one, 2, 0, "new")
		send(t, two, 2, 0, "new")
		wantFlight(t, "P7.3: the others", one, left...)
		wantFlight(t, "P7.4: the others", two, left...)
	}
}

func TestThereIsNoSuch(t *testing.T) {
	x := three(t)
	for _, i := range []int{3, 4, 64, 2048, 1 << 32, math.MaxInt, -1, -2, -3, math.MinInt} {
		wantNone(t, x, i)
	}
	wantFlight(t, "P7.3 to P7.6: refused calls", x, `0>1 "ab"`, `0>2 "c"`, `2>0 ""`)
}

func TestDoubleGoesBehindAll(t *testing.T) {
	x := three(t)
	for i, want := range []string{`0>1 "ab"`, `0>2 "c"`, `2>0 ""`} {
		wantErr(t, "P7.5: Double", x.Double(i), api.OK)
		if all := x.Flight(); told(all[3+i]) != want || told(all[i]) != want {
			t.Errorf("P7.5: Double(%d): %s", i, toldAll(all))
		}
	}
	wantErr(t, "P7.5: Double of a copy", x.Double(4), api.OK)
	wantFlight(t, "P7.5: doubled", x, `0>1 "ab"`, `0>2 "c"`, `2>0 ""`, `0>1 "ab"`, `0>2 "c"`, `2>0 ""`, `0>2 "c"`)
}

func TestACopyLivesByItself(t *testing.T) {
	x := must(t, 2)
	send(t, x, 0, 1, "ab")
	x.Double(0)
	wantErr(t, "P7.6: Flip of the copy", x.Flip(1, 0, 1), api.OK)
	wantFlight(t, "P7.5: the first stays", x, `0>1 "ab"`, "0>1 \"`b\"!")
	wantErr(t, "P7.6: Flip of the first", x.Flip(0, 1, 1), api.OK)
	wantFlight(t, "P7.5: the copy stays", x, `0>1 "ac"!`, "0>1 \"`b\"!")
	wantErr(t, "P7.5: Double of the first", x.Double(0), api.OK)
	wantErr(t, "P7.4: Drop of the first", x.Drop(0), api.OK)
	wantErr(t, "P7.6: Flip of its copy", x.Flip(1, 0, 1), api.ErrSpoilt)
	wantDeliver(t, "P7.5: its copy", x, 1, `0>1 "ac"!`)
	wantDeliver(t, "P7.5: the other copy", x, 0, "0>1 \"`b\"!")
}

func TestFlip(t *testing.T) {
	for at := range 3 {
		for mask := 1; mask <= 255; mask++ {
			x := three(t)
			send(t, x, 1, 0, "xyz")
			want := []byte("xyz")
			want[at] ^= byte(mask)
			wantErr(t, "P7.6: Flip", x.Flip(3, at, mask), api.OK)
			wantFlight(t, "P7.6: Flip", x, `0>1 "ab"`, `0>2 "c"`, `2>0 ""`, told(api.Datagram{From: 1, Bytes: want, Spoilt: true}))
			wantErr(t, "P7.6: the same flip again", x.Flip(3, at, mask), api.ErrSpoilt)
			wantErr(t, "P7.6: another flip", x.Flip(3, 2-at, 256-mask), api.ErrSpoilt)
		}
	}
}

func TestFlipThatCannotBe(t *testing.T) {
	x := three(t)
	masks := []int{math.MinInt, math.MinInt + 1, -256, -255, -1, 0, 256, 257, 511, 1 << 32, 1<<32 + 1, math.MaxInt}
	places := []int{math.MinInt, -256, -2, -1, 2, 3, 64, 256, 1 << 32, math.MaxInt}
	for spoilt := range 2 {
		for _, mask := range masks {
			wantErr(t, "P7.6: Flip by no mask", x.Flip(0, 0, mask), api.ErrFlip)
			wantErr(t, "P7.6: Flip by no mask at no place", x.Flip(0, 2, mask), api.ErrFlip)
		}
		for _, at := range places {
			wantErr(t, "P7.6: Flip at no place", x.Flip(0, at, 1), api.ErrFlip)
			wantErr(t, "P7.6: Flip at no place", x.Flip(0, at, 255), api.ErrFlip)
			wantErr(t, "P7.6: Flip of no byte", x.Flip(2, at, 1), api.ErrFlip)
		}
		wantErr(t, "P7.6: Flip of no byte", x.Flip(2, 0, 1), api.ErrFlip)
		wantErr(t, "P7.6: Flip behind the only byte", x.Flip(1, 1, 1), api.ErrFlip)
		if spoilt == 0 {
			wantFlight(t, "P7.6: refused flips", x, `0>1 "ab"`, `0>2 "c"`, `2>0 ""`)
			wantErr(t, "P7.6: Flip behind refused ones", x.Flip(0, 0, 255), api.OK)
		}
	}
	wantFlight(t, "P7.6: refused flips of a spoilt one", x, `0>1 "\x9eb"!`, `0>2 "c"`, `2>0 ""`)
}

func TestFull(t *testing.T) {
	x := must(t, 2)
	words := fill(t, x)
	wantErr(t, "P7.2: one more", x.Send(0, 1, []byte("x")), api.ErrLost)
	wantErr(t, "P7.2: one more of no byte", x.Send(2, 0, nil), api.ErrLost)
	wantErr(t, "P7.2: one more from no address", x.Send(1, 1, []byte("x")), api.ErrAddress)
	wantErr(t, "P7.2: one more that is too long", x.Send(1, 0, make([]byte, 65)), api.ErrBytes)
	wantErr(t, "P7.5: one more", x.Double(0), api.ErrLost)
	wantErr(t, "P7.5: one more", x.Double(2047), api.ErrLost)
	wantNone(t, x, 2048)
	wantNone(t, x, -1)
	wantFlight(t, "P7.2, P7.5: a full network", x, words...)
	wantErr(t, "P7.6: Flip of the first", x.Flip(0, 0, 65), api.OK)
	words[0] = `0>1 "A\x00"!`
	wantErr(t, "P7.4: Drop", x.Drop(5), api.OK)
	wantErr(t, "P7.2: Send where one has room", x.Send(2, 0, []byte("x")), api.OK)
	words = append(slices.Delete(words, 5, 6), `2>0 "x"`)
	wantErr(t, "P7.2: one more", x.Send(0, 1, []byte("x")), api.ErrLost)
	wantFlight(t, "P7.4: a full network again", x, words...)
	wantDeliver(t, "P7.3: the oldest of a full network", x, 0, words[0])
	wantErr(t, "P7.5: Double where one has room", x.Double(2046), api.OK)
	words = append(words[1:], `2>0 "x"`)
	wantErr(t, "P7.5: one more", x.Double(0), api.ErrLost)
	wantFlight(t, "P7.5: a full network again", x, words...)
}

func TestAnOldOneStaysTheOldest(t *testing.T) {
	x := must(t, 2)
	send(t, x, 2, 0, "old")
	send(t, x, 0, 2, "next")
	for i := range 100_000 {
		send(t, x, 0, 1, strconv.Itoa(i))
		if i%2 == 0 {
			wantErr(t, "P7.4: Drop of the newest", x.Drop(2), api.OK)
		} else {
			wantDeliver(t, "P7.3: the newest", x, 2, `0>1 "`+strconv.Itoa(i)+`"`)
		}
	}
	send(t, x, 1, 0, "new")
	wantFlight(t, "P7.7: the oldest first", x, `2>0 "old"`, `0>2 "next"`, `1>0 "new"`)
}

func TestArgumentsAreNeitherKeptNorChanged(t *testing.T) {
	b := []byte("ab-room behind")
	x := must(t, 2)
	x.Send(0, 1, b[:2])
	x.Flip(0, 0, 3)
	x.Double(0)
	if string(b) != "ab-room behind" {
		t.Errorf("P7.2: Send's bytes changed: %q", b)
	}
	clear(b)
	wantFlight(t, "P7.2: what is written later", x, `0>1 "bb"!`, `0>1 "bb"!`)
	g, _ := x.Deliver(0)
	for i := range g.Bytes[:cap(g.Bytes)] {
		g.Bytes[:cap(g.Bytes)][i] = 'Z'
	}
	if !bytes.Equal(b, make([]byte, 14)) {
		t.Errorf("P7.7: what is delivered shares memory with what was sent: %q", b)
	}
}

// scribble writes into every byte of the answer that it can reach, the spare room too.
func scribble(all []api.Datagram) {
	for i := range all {
		b := all[i].Bytes[:cap(all[i].Bytes)]
		for k := range b {
			b[k] = '#'
		}
	}
	for i := range all[:cap(all)] {
		all[:cap(all)][i] = api.Datagram{From: 9, To: 9, Bytes: []byte("?"), Spoilt: true}
	}
}

func TestAnswersAreNewMemory(t *testing.T) {
	x := three(t)
	x.Double(0)
	want := []string{`0>1 "ab"`, `0>2 "c"`, `2>0 ""`, `0>1 "ab"`}
	one, two := x.Flight(), x.Flight()
	scribble(one)
	if got := toldAll(two); got != `0>1 "ab", 0>2 "c", 2>0 "", 0>1 "ab"` {
		t.Errorf("P7.7: two answers share memory: %s", got)
	}
	wantFlight(t, "P7.7: an answer that was written into", x, want...)
	for i := range two {
		_ = append(two[i].Bytes, "######"...)
		clear(two[i].Bytes[:len(two[i].Bytes)/2])
	}
	if got := toldAll(two); got != `0>1 "\x00b", 0>2 "c", 2>0 "", 0>1 "\x00b"` {
		t.Errorf("P7.7: the bytes of one answer share memory: %s", got)
	}
	kept := x.Flight()
	g, _ := x.Deliver(0)
	x.Flip(2, 1, 255)
	x.Drop(0)
	if got := toldAll(kept); got != `0>1 "ab", 0>2 "c", 2>0 "", 0>1 "ab"` {
		t.Errorf("P7.7: an answer changes later: %s", got)
	}
	scribble([]api.Datagram{g})
	if got := toldAll(kept); got != `0>1 "ab", 0>2 "c", 2>0 "", 0>1 "ab"` {
		t.Errorf("P7.7: Deliver's answer shares memory with Flight's: %s", got)
	}
	wantFlight(t, "P7.7: what was delivered was written into", x, `2>0 ""`, `0>1 "a\x9d"!`)
}

func TestDeliveredTwinsShareNothing(t *testing.T) {
	x := must(t, 1)
	send(t, x, 1, 0, "twins")
	x.Double(0)
	x.Double(1)
	one, _ := x.Deliver(0)
	scribble([]api.Datagram{one})
	two, _ := x.Deliver(0)
	scribble([]api.Datagram{two})
	wantDeliver(t, "P7.5, P7.7: the third of three alike", x, 0, `1>0 "twins"`)
}

func TestAskingChangesNothing(t *testing.T) {
	x := three(t)
	x.Flip(0, 0, 1)
	for range 4 {
		wantFlight(t, "P7.7: asked again", x, "0>1 \"`b\"!", `0>2 "c"`, `2>0 ""`)
	}
	wantErr(t, "P7.6: Flip behind asking", x.Flip(0, 0, 1), api.ErrSpoilt)
	wantErr(t, "P7.6: Flip behind asking", x.Flip(1, 0, 1), api.OK)
}
