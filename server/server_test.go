package server_test

import (
	"slices"
	"testing"

	"jotter/api"
	"jotter/disk"
	"jotter/server"
)

func TestExample1(t *testing.T) {
	d := disk.New()
	s := start(t, d, 2)
	if d.Size() != 10 || d.Synced() != 10 {
		t.Fatalf("P13.1: the disk has %d bytes, %d synced, want 10, 10", d.Size(), d.Synced())
	}
	wantSeen(t, "P13.1", see(s), seen{view: api.ServerView{Up: true, Epoch: 1, Links: make([]api.LinkView, 2)}})
	wantTick(t, "example 1", s, invite(1), invite(2))
	said := s.Tick()
	for i, g := range said {
		if want := sealed(4, 1, byte(i+1)); len(said) != 2 || g.To != i+1 || !slices.Equal(g.Bytes, want) {
			t.Fatalf("P13.2: datagram %d is %d>%d %x, want 0>%d %x", i, g.From, g.To, g.Bytes, i+1, want)
		}
	}
}

// TestNoSuchNumberOfClients: the disk stays as it was, with bytes on it that no log has.
func TestNoSuchNumberOfClients(t *testing.T) {
	for _, n := range []int{0, 65, -1, -64, 1 << 40, -1 << 63, 1<<63 - 1} {
		d := diskOf(t, append(imageOf(bootPayload(1)), 7, 8), 5)
		s, err := server.Start(d, n)
		wantError(t, "P13.1: Start of a wrong number", err, api.Wrap(0, api.ErrClients))
		if s != nil || d.Size() != 12 || d.Synced() != 5 {
			t.Fatalf("P13.1: Start(.., %d): %v, the disk has %d bytes, %d synced", n, s, d.Size(), d.Synced())
		}
	}
	for _, n := range []int{1, 2, 63, 64} {
		s := start(t, disk.New(), n)
		if len(s.View().Links) != n || len(s.Tick()) != n {
			t.Fatalf("P13.1: a server of %d has %d sessions", n, len(s.View().Links))
		}
	}
}

func TestExample2(t *testing.T) {
	s := start(t, disk.New(), 2)
	get(t, "example 2", s, hello(1, 0, 1))
	wantLink(t, "example 2", s, 1, api.LinkView{Open: true, From: 1})
	wantLink(t, "example 2", s, 2, api.LinkView{})
	wantTick(t, "example 2", s, beat(1, 0), invite(2))
	getIdle(t, "P13.4", s, hello(1, 7, 9))
	wantTick(t, "example 2", s, beat(1, 0), invite(2))
}

func TestExample3(t *testing.T) {
	s := start(t, disk.New(), 2)
	get(t, "example 3", s, hello(1, 0, 1))
	get(t, "example 3", s, edit(1, 0, 0, ins(0, 'a', 1, 1)))
	wantState(t, "example 3", s, 1, 0, "a", "")
	wantLink(t, "example 3", s, 1, api.LinkView{Open: true, From: 1, Cum: 1})
	wantTick(t, "example 3", s, record(1, 1, 1, 1, ins(0, 'a', 1, 1)), invite(2))
	wantState(t, "example 3", s, 1, 1, "a", "a")
	wantLink(t, "example 3", s, 1, api.LinkView{Open: true, From: 1, Sent: 1, Cum: 1})
	getIdle(t, "example 3", s, edit(1, 0, 0, ins(0, 'a', 1, 1)))
}

func TestExample4(t *testing.T) {
	for _, c := range []struct {
		m    api.Msg
		want api.Errno
	}{
		{of(2, hello(1, 0, 1)), api.ErrStale},
		{hello(3, 0, 1), api.ErrStranger},
		{beat(1, 0), api.ErrStray},
		{edit(1, 0, 0, ins(0, 'x', 2, 1)), api.ErrClosed},
		{nod(2, 0), api.ErrClosed},
		{nod(1, 2), api.ErrAck},
		{edit(2, 1, 0, ins(0, 'b', 1, 3)), api.ErrSeq},
		{edit(10, 1, 0, ins(0, 'b', 1, 10)), api.ErrFar},
		{edit(2, 1, 2, ins(0, 'b', 1, 2)), api.ErrSent},
		{edit(2, 1, 0, del(7, 1, 2)), api.ErrPlace},
		{edit(2, 1, 0, nop(1, 2)), api.ErrNoEdit},
		{hello(2, 2, 1), api.ErrHave},
		{hello(2, 0, 2), api.ErrFirst},
	} {
		s, _ := example3(t)
		refuse(t, "example 4", s, c.m, c.want)
		wantTick(t, "example 4", s, record(1, 1, 1, 1, ins(0, 'a', 1, 1)), invite(2))
	}
}

// example5 goes on from example 3, up to its Tick.
func example5(t *testing.T) (*server.Server, *disk.Disk) {
	t.Helper()
	s, d := example3(t)
	get(t, "example 5", s, edit(3, 1, 0, ins(2, 'c', 1, 3)))
	wantState(t, "example 5", s, 1, 1, "a", "a")
	wantLink(t, "example 5", s, 1, api.LinkView{Open: true, From: 1, Sent: 1, Got: 1, Cum: 1})
	get(t, "example 5", s, edit(2, 0, 0, ins(1, 'b', 1, 2)))
	wantState(t, "example 5", s, 3, 1, "abc", "a")
	wantLink(t, "example 5", s, 1, api.LinkView{Open: true, From: 1, Sent: 1, Got: 1, Cum: 3})
	return s, d
}

func TestExamples5And6(t *testing.T) {
	s, _ := example5(t)
	a, b, c, x := ins(0, 'a', 1, 1), ins(1, 'b', 1, 2), ins(2, 'c', 1, 3), ins(3, 'x', 2, 1)
	wantTick(t, "example 5", s, record(1, 2, 3, 2, b), record(1, 3, 3, 3, c), invite(2))
	get(t, "example 6", s, hello(2, 0, 1))
	wantTick(t, "example 6", s, record(1, 2, 3, 2, b), record(1, 3, 3, 3, c), record(2, 1, 0, 1, a), record(2, 2, 0, 2, b), record(2, 3, 0, 3, c))
	get(t, "example 6", s, edit(1, 3, 0, ins(0, 'x', 2, 1)))
	wantState(t, "example 6", s, 4, 3, "abcx", "abc")
	get(t, "example 6", s, nod(1, 3))
	wantTick(t, "example 6", s, record(1, 4, 3, 4, x), record(2, 4, 1, 4, x))
	get(t, "P13.5", s, nod(1, 4))
	wantTick(t, "P13.2: one has all, the other has not", s, beat(1, 3), record(2, 4, 1, 4, x))
	want := []api.Edit{{Op: a}, {Op: b}, {Op: c}, {Op: ins(0, 'x', 2, 1)}}
	if got := s.Edits(); !slices.Equal(got, want) {
		t.Fatalf("P13.7: Edits = %s, want %s", words(got), words(want))
	}
}

func TestExample7(t *testing.T) {
	s, _ := example3(t)
	getIdleBut(t, s, edit(3, 1, 0, del(9, 1, 3)))
	get(t, "example 7", s, edit(2, 1, 0, ins(1, 'b', 1, 2)))
	wantState(t, "example 7", s, 2, 1, "ab", "a")
	wantLink(t, "example 7", s, 1, api.LinkView{Open: true, From: 1, Sent: 1, Got: 1, Cum: 2})
	refuse(t, "P13.6: the tossed one comes again", s, edit(3, 1, 0, del(9, 1, 3)), api.ErrPlace)
	get(t, "example 7", s, edit(3, 1, 0, del(0, 1, 3)))
	wantState(t, "example 7", s, 3, 1, "b", "a")
}

// getIdleBut gives a message that must change nothing but what its Ack says.
func getIdleBut(t *testing.T, s *server.Server, m api.Msg) {
	t.Helper()
	want := see(s)
	get(t, "P13.6", s, m)
	want.view.Links[m.Client-1].Got = max(want.view.Links[m.Client-1].Got, m.Ack)
	wantSeen(t, "P13.6: "+msgWord(m)+" gives its Ack alone", see(s), want)
}

func TestExample8(t *testing.T) {
	for _, instead := range []bool{false, true} {
		old, d := example5(t)
		if n := old.View().Synced; n != 1 {
			t.Fatalf("P13.6: %d records are synced without a tick, want 1", n)
		}
		if e := d.Crash(0, 0, 0); e != api.OK {
			t.Fatalf("disk.Crash: %d", e)
		}
		s := start(t, d, 2)
		wantState(t, "example 8", s, 1, 1, "a", "a")
		if v := s.View(); v.Epoch != 2 || v.Links[0].Open || v.Links[1].Open {
			t.Fatalf("P13.1: behind a crash: %s", see(s))
		}
		wantTick(t, "example 8", s, of(2, invite(1)), of(2, invite(2)))
		refuse(t, "example 8", s, of(2, hello(1, 1, 1)), api.ErrFirst)
		if instead {
			get(t, "example 8", s, of(2, hello(1, 1, 2)))
			wantLink(t, "example 8", s, 1, api.LinkView{Open: true, Base: 1, From: 2})
			wantTick(t, "example 8", s, of(2, beat(1, 0)), of(2, invite(2)))
			continue
		}
		get(t, "example 8", s, of(2, hello(1, 0, 1)))
		get(t, "example 8", s, of(2, edit(1, 0, 0, ins(0, 'a', 1, 1))))
		wantState(t, "example 8", s, 1, 1, "a", "a")
		wantLink(t, "example 8", s, 1, api.LinkView{Open: true, From: 1, Cum: 1})
		get(t, "example 8", s, of(2, edit(2, 0, 0, ins(1, 'b', 1, 2))))
		wantState(t, "example 8", s, 2, 1, "ab", "a")
	}
}

func TestExample9(t *testing.T) {
	d := disk.New()
	for epoch := 1; epoch <= api.MaxEpoch; epoch++ {
		if s := start(t, d, 1); s.View().Epoch != epoch || d.Size() != 10*epoch || d.Synced() != 10*epoch {
			t.Fatalf("P13.1: start %d: epoch %d, %d bytes, %d synced", epoch, s.View().Epoch, d.Size(), d.Synced())
		}
	}
	for _, tail := range [][]byte{nil, {0, 2, 255}, {9}, imageOf(bootPayload(7)), imageOf(editPayload(0, ins(5, 'x', 1, 1)))} {
		full := diskOf(t, append(d.Bytes(), tail...), 2545)
		s, err := server.Start(full, 1)
		wantError(t, "P13.1: all epochs are used", err, api.Wrap(0, api.ErrEpochs))
		if s != nil || full.Size() != 2550 || full.Synced() != 2545 {
			t.Fatalf("P13.1: all epochs are used: %v, %d bytes, %d synced, want 2550, 2545", s, full.Size(), full.Synced())
		}
	}
	image := imageOf(bootPayload(1), editPayload(0, ins(0, 'a', 60, 1)))
	d = diskOf(t, append(image, 0, 2, 0xFF), 0)
	s, err := server.Start(d, 2)
	wantError(t, "example 9", err, api.Wrap(27, api.ErrTorn))
	if s == nil || d.Size() != 37 || d.Synced() != 37 {
		t.Fatalf("example 9: %v, %d bytes, %d synced, want 37, 37", s, d.Size(), d.Synced())
	}
	wantState(t, "example 9", s, 1, 1, "a", "a")
}

// TestCutLogs: what book.Open tells is handed on as it is, Fault in Fault.
func TestCutLogs(t *testing.T) {
	first := imageOf(bootPayload(1))
	for _, c := range []struct {
		tail []byte
		want error
	}{
		{imageOf(bootPayload(3)), api.Wrap(10, api.ErrItem)},
		{imageOf([]byte{7}), &api.Fault{At: 10, Err: api.Wrap(0, api.ErrMsgKind)}},
		{imageOf(editPayload(0, ins(1, 'a', 1, 1))), api.Wrap(10, api.ErrPlace)},
		{imageOf(editPayload(0, ins(0, 'a', 1, 2))), api.Wrap(10, api.ErrTurn)},
		{append(imageOf(bootPayload(3)), 1, 2, 3), api.Wrap(10, api.ErrItem)},
		{[]byte{0, 2, 255, 252}, api.Wrap(10, api.ErrHead)},
	} {
		d := diskOf(t, append(slices.Clone(first), c.tail...), 3)
		s, err := server.Start(d, 1)
		wantError(t, "P13.1: a log that is cut", err, c.want)
		if s == nil || s.View().Epoch != 2 || !slices.Equal(d.Bytes(), imageOf(bootPayload(1), bootPayload(2))) || d.Synced() != 20 {
			t.Fatalf("P13.1: a log that is cut: %v, the disk has % x, %d synced", s, d.Bytes(), d.Synced())
		}
	}
}

// TestEditsOfClientsThatAreNotHere: a log of more clients than the server has is told like any, and its makers are strangers.
func TestEditsOfClientsThatAreNotHere(t *testing.T) {
	d := diskOf(t, imageOf(bootPayload(1), editPayload(0, ins(0, 'a', 60, 1)), editPayload(0, ins(0, 'b', 64, 1))), 0)
	s := start(t, d, 2)
	wantState(t, "P13.1", s, 2, 2, "ab", "ab")
	get(t, "P13.4", s, of(2, hello(1, 0, 1)))
	get(t, "P13.4", s, of(2, hello(2, 1, 1)))
	wantTick(t, "P13.1", s, of(2, record(1, 1, 0, 1, ins(0, 'a', 60, 1))), of(2, record(1, 2, 0, 2, ins(1, 'b', 64, 1))), of(2, record(2, 1, 0, 2, ins(1, 'b', 64, 1))))
	refuse(t, "P13.3", s, of(2, hello(60, 1, 2)), api.ErrStranger)
	refuse(t, "P13.3", s, of(2, hello(3, 0, 1)), api.ErrStranger)
}

// TestFaultsInTheirOrder: each message has one fault and all those behind it that it can have too.
func TestFaultsInTheirOrder(t *testing.T) {
	s, _ := example3(t)
	for _, c := range []struct {
		m    api.Msg
		want api.Errno
	}{
		{of(2, invite(3)), api.ErrStray},
		{of(2, beat(3, 9)), api.ErrStray},
		{of(2, record(3, 20, 9, 9, nop(3, 9))), api.ErrStray},
		{record(1, 2, 0, 2, ins(0, 'b', 1, 2)), api.ErrStray},
		{of(2, hello(3, 9, 9)), api.ErrStranger},
		{of(2, nod(64, 9)), api.ErrStranger},
		{of(2, edit(20, 9, 9, nop(3, 9))), api.ErrStranger},
		{of(2, edit(20, 9, 9, nop(2, 9))), api.ErrStale},
		{of(2, hello(2, 9, 9)), api.ErrStale},
		{of(2, hello(1, 0, 1)), api.ErrStale}, // though a Hello of an open session would change nothing
		{of(255, nod(2, 9)), api.ErrStale},
		{edit(20, 9, 9, nop(2, 9)), api.ErrClosed},
		{nod(2, 9), api.ErrClosed},
		{edit(20, 2, 9, nop(1, 9)), api.ErrAck},
		{edit(1, 2, 0, ins(0, 'a', 1, 1)), api.ErrAck}, // a duplicate's Ack counts too
		{edit(1, 4096, 0, ins(0, 'a', 1, 1)), api.ErrAck},
		{edit(20, 1, 9, nop(1, 9)), api.ErrSeq},
		{edit(1, 1, 0, ins(0, 'a', 1, 2)), api.ErrSeq},
		{edit(2, 1, 0, ins(0, 'a', 1, 1)), api.ErrSeq},
		{edit(4096, 1, 0, ins(0, 'a', 1, 64)), api.ErrSeq},
		{edit(10, 1, 9, nop(1, 10)), api.ErrFar},
		{edit(64, 1, 9, nop(1, 64)), api.ErrFar},
		{edit(2, 1, 2, nop(1, 2)), api.ErrSent},
		{edit(2, 1, 4096, del(7, 1, 2)), api.ErrSent},
		{edit(9, 1, 2, nop(1, 9)), api.ErrSent},
		{edit(1, 1, 2, ins(0, 'a', 1, 1)), api.ErrSent}, // of a duplicate too
		{edit(2, 1, 1, nop(1, 2)), api.ErrNoEdit},
		{edit(2, 1, 1, del(1, 1, 2)), api.ErrPlace},
		{edit(2, 1, 1, ins(2, 'b', 1, 2)), api.ErrPlace},
		{hello(2, 2, 9), api.ErrHave},
		{hello(2, 1, 2), api.ErrFirst},
		{hello(2, 1, 65), api.ErrFirst},
	} {
		refuse(t, "the order of faults", s, c.m, c.want)
	}
	wantTick(t, "behind all that was refused", s, record(1, 1, 1, 1, ins(0, 'a', 1, 1)), invite(2))
}

// TestNoMessages: what wire tells is handed on, with its place.
func TestNoMessages(t *testing.T) {
	s, _ := example3(t)
	before := see(s)
	spoilt := bytesOf(t, nod(1, 0))
	spoilt[2] ^= 8
	for _, c := range []struct {
		b    []byte
		at   int
		want api.Errno
	}{
		{nil, 0, api.ErrLength},
		{[]byte{1, 2, 3}, 3, api.ErrLength},
		{sealed(), 0, api.ErrLength},
		{spoilt, 5, api.ErrDatagram},
		{make([]byte, 65), 64, api.ErrFrame},
		{make([]byte, 64), 60, api.ErrDatagram},
		{sealed(0, 1, 1), 0, api.ErrMsgKind},
		{sealed(7, 1, 1), 0, api.ErrMsgKind},
		{sealed(3, 1, 1, 0), 4, api.ErrLength},
		{sealed(3, 0, 1, 0, 0), 1, api.ErrField},
		{sealed(3, 1, 0, 0, 0), 2, api.ErrField},
		{sealed(3, 1, 65, 0, 0), 2, api.ErrField},
		{sealed(1, 1, 2, 0, 0, 0), 5, api.ErrField},
		{sealed(4, 1, 0), 2, api.ErrField},
	} {
		if len(c.b) == 64 {
			c.b[0] = 1
		}
		wantError(t, "P13.3", s.Receive(c.b), api.Wrap(c.at, c.want))
		wantSeen(t, "P13.3: refused", see(s), before)
	}
}

// TestEveryFlip: no changed byte of a datagram that would be taken is taken.
func TestEveryFlip(t *testing.T) {
	s, _ := example3(t)
	before := see(s)
	for _, m := range []api.Msg{hello(2, 0, 1), edit(2, 1, 1, ins(1, 'b', 1, 2)), nod(1, 1)} {
		for at := range bytesOf(t, m) {
			for _, mask := range []byte{1, 2, 16, 128, 255} {
				b := bytesOf(t, m)
				b[at] ^= mask
				wantError(t, "P13.3: a flipped byte", s.Receive(b), api.Wrap(len(b)-4, api.ErrDatagram))
			}
		}
	}
	wantSeen(t, "P13.3: refused", see(s), before)
}
