package client_test

import (
	"math"
	"testing"

	"jotter/api"
	"jotter/client"
	"jotter/doc"
	"jotter/wire"
)

func TestNewTakesTheClientsAlone(t *testing.T) {
	for id := 1; id <= api.MaxClients; id++ {
		c := newClient(t, id)
		wantSession(t, "P11.1", c, 0, false, 0, 0)
		wantDoc(t, "P11.1", c, "", 0)
		wantTick(t, "P11.1: in no epoch", c)
		if got := c.View().ID; got != id {
			t.Fatalf("P11.1: New(%d) has the ID %d", id, got)
		}
	}
	for _, id := range []int{math.MinInt, -64, -1, 0, 65, 66, 128, 256 + 1, 1<<32 + 1, math.MaxInt} {
		if c, e := client.New(id); c != nil || e != api.ErrID {
			t.Fatalf("P11.1: New(%d) = %v, %d, want nil, ErrID", id, c, e)
		}
	}
}

// TestLinkBeginsEmpty: nothing is held, nothing counts as sent, the first number is 1.
func TestLinkBeginsEmpty(t *testing.T) {
	c := newClient(t, 1)
	get(t, "P11.1", c, invite(1))
	refuse(t, "P11.1: nothing was sent", c, beat(1, 1), api.ErrAck)
	refuse(t, "P11.1: the inbox takes 1 to 8", c, record(1, 9, 0, 9, ins(0, 'x', 2, 1)), api.ErrFar)
	get(t, "P11.1", c, record(1, 8, 0, 8, ins(0, 'x', 2, 1)))
	get(t, "P11.1", c, record(1, 1, 0, 1, ins(0, 'y', 3, 1)))
	wantDoc(t, "P11.1: nothing was held", c, "y", 1)
	wantInsert(t, "P11.2", c, 0, 'a', 1)
	wantTick(t, "P11.1: the first number", c, edit(1, 1, 1, 1, ins(0, 'a', 1, 1)))
}

// example gives client 1 as it stands behind the chapter's example of that number, up to 4.
func example(t *testing.T, number int) *client.Client {
	t.Helper()
	c := newClient(t, 1)
	wantInsert(t, "example 1", c, 0, 'a', 0)
	wantTick(t, "example 1", c)
	if number == 1 {
		return c
	}
	get(t, "example 2", c, invite(1))
	wantTick(t, "example 2", c, hello(1, 0, 1))
	wantInsert(t, "example 2", c, 1, 'b', 0)
	wantTick(t, "example 2", c, hello(1, 0, 1))
	if number == 2 {
		return c
	}
	get(t, "example 3", c, beat(1, 0))
	wantSession(t, "example 3", c, 1, true, 2, 0)
	refuse(t, "example 3: ahead of the tick", c, beat(1, 1), api.ErrAck)
	wantTick(t, "example 3", c, edit(1, 1, 0, 0, ins(0, 'a', 1, 1)), edit(1, 2, 0, 0, ins(1, 'b', 1, 2)))
	if number == 3 {
		return c
	}
	get(t, "example 4", c, record(1, 1, 0, 1, ins(0, 'x', 2, 1)))
	wantDoc(t, "example 4", c, "xab", 1, ins(1, 'a', 1, 1), ins(2, 'b', 1, 2))
	wantTick(t, "example 4", c, edit(1, 1, 1, 0, ins(0, 'a', 1, 1)), edit(1, 2, 1, 0, ins(1, 'b', 1, 2)))
	return c
}

func TestExampleOne(t *testing.T) {
	c := example(t, 1)
	wantNoInsert(t, "example 1", c, 2, 'b', api.ErrPos)
	wantNoInsert(t, "example 1", c, -1, 'b', api.ErrPos)
	wantNoInsert(t, "example 1", c, 5, 31, api.ErrCh)
	wantNoInsert(t, "example 1", c, 0, 127, api.ErrCh)
	wantNoDelete(t, "example 1", c, 1, api.ErrPos)
	wantDoc(t, "example 1", c, "a", 0, ins(0, 'a', 1, 1))
}

func TestExampleThree(t *testing.T) {
	c := example(t, 3)
	get(t, "example 3: behind the tick", c, beat(1, 1))
	wantTick(t, "example 3", c, edit(1, 2, 0, 0, ins(1, 'b', 1, 2)))
}

func TestExampleFive(t *testing.T) {
	c := example(t, 4)
	refuse(t, "example 5", c, record(1, 2, 1, 2, ins(0, 'a', 1, 1)), api.ErrOwn)
	wantTick(t, "example 5: a refused record's Ack is not taken", c, edit(1, 1, 1, 0, ins(0, 'a', 1, 1)), edit(1, 2, 1, 0, ins(1, 'b', 1, 2)))
	get(t, "example 5", c, record(1, 2, 1, 2, ins(1, 'a', 1, 1)))
	wantDoc(t, "example 5", c, "xab", 2, ins(2, 'b', 1, 2))
	if p := c.Pending(); p[0] != (api.Edit{Tag: 0, Op: ins(1, 'b', 1, 2)}) {
		t.Fatalf("example 5: Pending %s", edits(p))
	}
	wantTick(t, "example 5", c, edit(1, 2, 2, 0, ins(1, 'b', 1, 2)))
}

func TestExampleSix(t *testing.T) {
	c := example(t, 4)
	early := record(1, 3, 1, 3, del(0, 2, 2))
	for range 3 {
		get(t, "example 6", c, early)
		wantDoc(t, "example 6", c, "xab", 1, ins(1, 'a', 1, 1), ins(2, 'b', 1, 2))
		wantTick(t, "example 6", c, edit(1, 2, 1, 0, ins(1, 'b', 1, 2)))
	}
	get(t, "example 6", c, record(1, 2, 1, 2, ins(1, 'a', 1, 1)))
	wantDoc(t, "example 6", c, "ab", 3, ins(1, 'b', 1, 2))
	wantTick(t, "example 6", c, edit(1, 2, 3, 0, ins(1, 'b', 1, 2)))
}

func TestExampleSeven(t *testing.T) {
	c := example(t, 4)
	refuse(t, "example 7", c, record(1, 2, 0, 3, ins(0, 'y', 2, 2)), api.ErrRev)
	refuse(t, "example 7", c, record(1, 10, 0, 10, ins(0, 'y', 2, 2)), api.ErrFar)
	refuse(t, "example 7", c, record(1, 2, 0, 2, ins(0, 'y', 2, 3)), api.ErrStrange)
	refuse(t, "example 7", c, record(1, 2, 0, 2, ins(2, 'y', 3, 1)), api.ErrStrange)
	wantTick(t, "example 7", c, edit(1, 1, 1, 0, ins(0, 'a', 1, 1)), edit(1, 2, 1, 0, ins(1, 'b', 1, 2)))
	get(t, "example 7", c, record(1, 2, 0, 2, ins(1, 'y', 3, 1)))
	wantDoc(t, "example 7", c, "xyab", 2, ins(2, 'a', 1, 1), ins(3, 'b', 1, 2))
}

func TestExampleEight(t *testing.T) {
	c := example(t, 4)
	get(t, "example 8", c, invite(3))
	wantSession(t, "example 8", c, 3, false, 2, 1)
	wantDoc(t, "example 8: the text stays", c, "xab", 1, ins(1, 'a', 1, 1), ins(2, 'b', 1, 2))
	wantTick(t, "example 8", c, hello(3, 1, 1))
	refuse(t, "example 8", c, record(1, 2, 0, 2, ins(1, 'a', 1, 1)), api.ErrStale)
	refuse(t, "example 8", c, invite(2), api.ErrStale)
	get(t, "example 8", c, invite(3))
	wantTick(t, "example 8", c, hello(3, 1, 1))
	get(t, "example 8", c, record(3, 1, 0, 2, ins(1, 'a', 1, 1)))
	wantSession(t, "example 8", c, 3, true, 2, 2)
	wantDoc(t, "example 8", c, "xab", 2, ins(2, 'b', 1, 2))
	wantTick(t, "example 8", c, edit(3, 1, 1, 0, ins(0, 'a', 1, 1)), edit(3, 2, 1, 0, ins(1, 'b', 1, 2)))
}

func TestExampleNine(t *testing.T) {
	c := example(t, 4)
	refuse(t, "example 9", c, hello(1, 0, 1), api.ErrStray)
	refuse(t, "example 9", c, to(beat(1, 0), 2), api.ErrMine)
	b := bytesOf(t, beat(1, 0))
	for i := range b {
		for mask := 1; mask < 256; mask++ {
			b[i] ^= byte(mask)
			refuseBytes(t, "example 9", c, b, 5, api.ErrDatagram)
			b[i] ^= byte(mask)
		}
	}
}

func TestExampleTen(t *testing.T) {
	c := newClient(t, 1)
	for n := range api.MaxEdits {
		wantInsert(t, "example 10", c, n, 'a', 0)
	}
	wantNoInsert(t, "example 10", c, 0, 'a', api.ErrQuota)
	wantNoInsert(t, "example 10", c, 64, 'a', api.ErrQuota)
	wantNoDelete(t, "example 10", c, 0, api.ErrQuota)
	wantNoDelete(t, "example 10", c, 63, api.ErrQuota)
	wantNoDelete(t, "example 10: beyond the text", c, 64, api.ErrPos)
	wantNoDelete(t, "example 10: beyond the text", c, -1, api.ErrPos)
	wantNoInsert(t, "P11.2: the place is looked at first", c, 65, 'a', api.ErrPos)
	wantNoInsert(t, "P11.2: the character is looked at first", c, 65, 127, api.ErrCh)
}

// TestQuotaIsForLife: neither the records nor a new epoch give any edit back.
func TestQuotaIsForLife(t *testing.T) {
	c := joined(t)
	for n := range api.MaxEdits {
		wantDeleteOrInsert(t, c, n)
		get(t, "P11.9", c, record(1, n+1, 0, n+1, c.Forms()[0]))
	}
	wantDoc(t, "P11.2", c, "", 64)
	wantNoInsert(t, "P11.2: all were told back", c, 0, 'a', api.ErrQuota)
	get(t, "P11.7", c, invite(2))
	wantTick(t, "P11.4: no edit is left", c, hello(2, 64, 65))
	wantNoInsert(t, "P11.2: a new epoch", c, 0, 'a', api.ErrQuota)
	wantNoDelete(t, "P11.3: a new epoch, and an empty text", c, 0, api.ErrPos)
}

func wantDeleteOrInsert(t *testing.T, c *client.Client, n int) {
	t.Helper()
	if n%2 == 0 {
		wantInsert(t, "P11.2", c, 0, 'a', n)
	} else {
		wantDelete(t, "P11.3", c, 0, n)
	}
}

func TestEveryCharacter(t *testing.T) {
	for ch := -300; ch <= 600; ch++ {
		c := newClient(t, 1)
		if ch >= 32 && ch <= 126 {
			wantInsert(t, "P11.2", c, 0, byte(ch), 0)
		} else {
			wantNoInsert(t, "P11.2", c, 0, ch, api.ErrCh)
			wantNoInsert(t, "P11.2: ahead of the place", c, 1, ch, api.ErrCh)
		}
	}
	c := newClient(t, 1)
	for _, ch := range []int{math.MinInt, math.MaxInt, 1<<32 + 'a', -1<<32 + 'a', 1<<62 + 'a', 1<<16 + 'a'} {
		wantNoInsert(t, "P11.2", c, 0, ch, api.ErrCh)
	}
}

func TestEveryPlace(t *testing.T) {
	for size := range 6 {
		for pos := -3; pos < size+4; pos++ {
			wantPlace(t, filled(t, size), pos, pos >= 0 && pos <= size, pos >= 0 && pos < size)
		}
		for _, pos := range []int{math.MinInt, math.MinInt + 1, -1 << 32, 1 << 32, 4095, 4096, 1 << 62, math.MaxInt} {
			wantPlace(t, filled(t, size), pos, false, false)
		}
	}
}

// filled gives client 1 with so many characters: its own and another's by turns.
func filled(t *testing.T, size int) *client.Client {
	t.Helper()
	c := joined(t)
	for n := range size {
		if n%2 == 0 {
			wantInsert(t, "P11.2", c, n, 'a', n/2)
		} else {
			get(t, "P11.9", c, record(1, 1+n/2, 0, 1+n/2, ins(0, 'x', 2, 1+n/2)))
		}
	}
	return c
}

// wantPlace ends the test unless Insert and Delete take or refuse that place.
func wantPlace(t *testing.T, c *client.Client, pos int, insert, remove bool) {
	t.Helper()
	have := c.View().Have
	if remove {
		wantDelete(t, "P11.3", c, pos, have)
		wantInsert(t, "P11.2", c, pos, 'q', have)
	} else {
		wantNoDelete(t, "P11.3", c, pos, api.ErrPos)
	}
	if insert {
		wantInsert(t, "P11.2", c, pos, 'r', have)
	} else {
		wantNoInsert(t, "P11.2", c, pos, 'r', api.ErrPos)
	}
}

// TestTagIsHave: an edit's tag counts the records of all, its own too, and stays as it was.
func TestTagIsHave(t *testing.T) {
	c := joined(t)
	wantInsert(t, "P11.2", c, 0, 'a', 0)
	get(t, "P11.9", c, record(1, 1, 0, 1, ins(0, 'x', 2, 1)))
	wantInsert(t, "P11.2", c, 2, 'b', 1)
	get(t, "P11.9", c, record(1, 2, 0, 2, ins(1, 'a', 1, 1)))
	wantDelete(t, "P11.3: another's element", c, 0, 2)
	wantTick(t, "P11.4", c, edit(1, 1, 2, 0, ins(0, 'a', 1, 1)), edit(1, 2, 2, 1, ins(2, 'b', 1, 2)), edit(1, 3, 2, 2, del(0, 1, 3)))
	get(t, "P11.7", c, invite(9))
	wantTick(t, "P11.4", c, hello(9, 2, 2))
	wantInsert(t, "P11.2: not open", c, 0, 'c', 2)
	get(t, "P11.8", c, beat(9, 0))
	wantTick(t, "P11.7: as they were made", c, edit(9, 1, 0, 1, ins(2, 'b', 1, 2)), edit(9, 2, 0, 2, del(0, 1, 3)), edit(9, 3, 0, 2, ins(0, 'c', 1, 4)))
}

// TestPushedInEveryEpochButNone: what is made in no epoch waits for the Invite; what is made in one is pushed at once, open or not.
func TestPushedInEveryEpochButNone(t *testing.T) {
	c := newClient(t, 1)
	wantInsert(t, "P11.2", c, 0, 'a', 0)
	wantInsert(t, "P11.2", c, 1, 'b', 0)
	get(t, "P11.7", c, invite(1))
	wantInsert(t, "P11.2", c, 2, 'c', 0)
	get(t, "P11.8", c, beat(1, 0))
	wantInsert(t, "P11.2", c, 3, 'd', 0)
	wantTick(t, "P11.2, P11.7: each once", c, edit(1, 1, 0, 0, ins(0, 'a', 1, 1)), edit(1, 2, 0, 0, ins(1, 'b', 1, 2)), edit(1, 3, 0, 0, ins(2, 'c', 1, 3)), edit(1, 4, 0, 0, ins(3, 'd', 1, 4)))
}

// TestWindow: the first eight that are not acknowledged, at each tick.
func TestWindow(t *testing.T) {
	c := joined(t)
	var all []api.Msg
	for n := range 20 {
		wantInsert(t, "P11.2", c, n, 'a', 0)
		all = append(all, edit(1, n+1, 0, 0, ins(n, 'a', 1, n+1)))
	}
	wantTick(t, "P11.4: eight", c, all[:8]...)
	refuse(t, "P11.5: beyond what was sent", c, beat(1, 9), api.ErrAck)
	get(t, "P11.8", c, beat(1, 3))
	wantTick(t, "P11.4: eight", c, all[3:11]...)
	get(t, "P11.8: an old one", c, beat(1, 2))
	wantTick(t, "P11.8: an old Ack takes nothing back", c, all[3:11]...)
	get(t, "P11.8", c, beat(1, 11))
	wantTick(t, "P11.4: eight", c, all[11:19]...)
	get(t, "P11.8", c, beat(1, 19))
	wantTick(t, "P11.4: the last", c, all[19])
	refuse(t, "P11.5: beyond the last", c, beat(1, 21), api.ErrAck)
	get(t, "P11.8", c, beat(1, 20))
	wantTick(t, "P11.4: none is due", c, nod(1, 0))
	wantDoc(t, "P11.8: an Ack takes nothing out of Pending", c, "aaaaaaaaaaaaaaaaaaaa", 0, c.Forms()...)
	if n := len(c.Pending()); n != 20 {
		t.Fatalf("P11.8: %d pending, want 20", n)
	}
	wantInsert(t, "P11.2", c, 0, 'z', 0)
	wantTick(t, "P11.4: a new one is due", c, edit(1, 21, 0, 0, ins(0, 'z', 1, 21)))
}

// TestHelloSendsNothing: no edit counts as sent as long as the client is not open.
func TestHelloSendsNothing(t *testing.T) {
	c := example(t, 2)
	wantTick(t, "P11.4", c, hello(1, 0, 1))
	refuse(t, "P11.4: not open", c, beat(1, 1), api.ErrAck)
	refuse(t, "P11.4: not open", c, record(1, 1, 1, 1, ins(0, 'x', 2, 1)), api.ErrAck)
	wantSession(t, "P11.5: a refused one opens nothing", c, 1, false, 2, 0)
	get(t, "P11.8", c, beat(1, 0))
	refuse(t, "P11.4: open, ahead of the tick", c, beat(1, 1), api.ErrAck)
	wantTick(t, "P11.4", c, edit(1, 1, 0, 0, ins(0, 'a', 1, 1)), edit(1, 2, 0, 0, ins(1, 'b', 1, 2)))
	get(t, "P11.4: behind the tick", c, beat(1, 2))
	wantTick(t, "P11.4", c, nod(1, 0))
}

func TestHelloTellsTheFirstThatWaits(t *testing.T) {
	c := newClient(t, 1)
	get(t, "P11.7", c, invite(1))
	wantTick(t, "P11.4: none was made", c, hello(1, 0, 1))
	wantInsert(t, "P11.2", c, 0, 'a', 0)
	wantTick(t, "P11.4: one is pending", c, hello(1, 0, 1))
	get(t, "P11.9", c, record(1, 1, 0, 1, ins(0, 'a', 1, 1)))
	get(t, "P11.7", c, invite(2))
	wantTick(t, "P11.4: none is pending", c, hello(2, 1, 2))
	wantInsert(t, "P11.2", c, 1, 'b', 1)
	wantInsert(t, "P11.2", c, 2, 'c', 1)
	wantTick(t, "P11.4: the same bytes", c, hello(2, 1, 2))
	get(t, "P11.9", c, record(2, 1, 0, 2, ins(1, 'b', 1, 2)))
	get(t, "P11.7", c, invite(255))
	wantTick(t, "P11.4: one of two", c, hello(255, 2, 3))
}

// TestMine: every other client's messages are refused, every kind of them.
func TestMine(t *testing.T) {
	for id := 1; id <= api.MaxClients; id++ {
		c := newClient(t, id)
		for other := 1; other <= api.MaxClients; other++ {
			if other == id {
				continue
			}
			for _, m := range []api.Msg{invite(1), beat(1, 9), record(1, 1, 0, 1, ins(0, 'x', 3, 1))} {
				refuse(t, "P11.5", c, to(m, other), api.ErrMine)
			}
		}
		get(t, "P11.7", c, to(invite(1), id))
		get(t, "P11.8", c, to(beat(1, 0), id))
		wantTick(t, "P11.4: its own ID", c, to(nod(1, 0), id))
		wantInsert(t, "P11.2: its own ID", c, 0, 'a', 0)
		wantTick(t, "P11.4: its own ID", c, to(edit(1, 1, 0, 0, ins(0, 'a', id, 1)), id))
		get(t, "P11.7", c, to(invite(2), id))
		wantTick(t, "P11.4: its own ID", c, to(hello(2, 0, 1), id))
	}
}

// TestStray: what goes to the server is refused, whatever else is wrong with it.
func TestStray(t *testing.T) {
	for _, number := range []int{1, 2, 3, 4} {
		c := example(t, number)
		for _, epoch := range []int{1, 2, 255} {
			for _, id := range []int{1, 2, 64} {
				for _, ack := range []int{0, 4096} {
					refuse(t, "P11.5", c, to(nod(epoch, ack), id), api.ErrStray)
					m := to(edit(epoch, 1, ack, 0, ins(0, 'x', id, 1)), id)
					refuse(t, "P11.5", c, m, api.ErrStray)
				}
				refuse(t, "P11.5", c, to(hello(epoch, 0, 1), id), api.ErrStray)
			}
		}
	}
}

// TestWireErrorsAreHandedOn: what Decode refuses is refused with its number and its place.
func TestWireErrorsAreHandedOn(t *testing.T) {
	c := example(t, 4)
	long := make([]byte, 65)
	for _, x := range []struct {
		b    []byte
		at   int
		want api.Errno
	}{
		{nil, 0, api.ErrLength},
		{[]byte{0, 0, 0}, 3, api.ErrLength},
		{[]byte{0, 0, 0, 0}, 0, api.ErrLength},
		{long, 64, api.ErrFrame},
		{long[:64], 60, api.ErrDatagram},
		{sealed(9), 0, api.ErrMsgKind},
		{sealed(4, 1), 2, api.ErrLength},
		{sealed(4, 0, 1), 1, api.ErrField},
		{sealed(4, 1, 65), 2, api.ErrField},
		{sealed(6, 1, 1, 16, 1), 3, api.ErrField},
		{sealed(1, 0, 1, 0, 0, 1), 1, api.ErrField},
	} {
		refuseBytes(t, "P11.5", c, x.b, x.at, x.want)
	}
	wantTick(t, "P11.5", c, edit(1, 1, 1, 0, ins(0, 'a', 1, 1)), edit(1, 2, 1, 0, ins(1, 'b', 1, 2)))
}

func TestAnyBytes(t *testing.T) {
	r := dice(1)
	c := example(t, 4)
	good := [][]byte{bytesOf(t, beat(1, 1)), bytesOf(t, invite(2)), bytesOf(t, record(1, 2, 1, 2, ins(1, 'a', 1, 1)))}
	for n := range 20000 {
		var b []byte
		if n%2 == 0 {
			b = append(b, good[r.IntN(3)]...)
			b[r.IntN(len(b))] ^= byte(1 + r.IntN(255))
		} else {
			b = make([]byte, r.IntN(70))
			for i := range b {
				b[i] = byte(r.IntN(256))
			}
		}
		if _, want := wire.Decode(b); want == nil || !same(c.Receive(b), want) {
			t.Fatalf("P11.5: Receive(%x): not %v", b, want)
		}
	}
	wantDoc(t, "P11.5", c, "xab", 1, ins(1, 'a', 1, 1), ins(2, 'b', 1, 2))
	wantTick(t, "P11.5", c, edit(1, 1, 1, 0, ins(0, 'a', 1, 1)), edit(1, 2, 1, 0, ins(1, 'b', 1, 2)))
}

// TestTextOfTheRecordsAndTheForms: one example of every pair of kinds, own ahead of another's.
func TestTextOfTheRecordsAndTheForms(t *testing.T) {
	for _, x := range []struct {
		own    func(c *client.Client) (api.Edit, api.Errno)
		theirs api.Op
		text   string
		form   api.Op
	}{
		{insert(1, 'Z'), ins(1, 'y', 3, 1), "ayZb", ins(2, 'Z', 1, 1)},
		{insert(1, 'Z'), ins(0, 'y', 3, 1), "yaZb", ins(2, 'Z', 1, 1)},
		{insert(1, 'Z'), ins(2, 'y', 3, 1), "aZby", ins(1, 'Z', 1, 1)},
		{insert(1, 'Z'), del(0, 3, 1), "Zb", ins(0, 'Z', 1, 1)},
		{insert(1, 'Z'), del(1, 3, 1), "aZ", ins(1, 'Z', 1, 1)},
		{insert(1, 'Z'), nop(3, 1), "aZb", ins(1, 'Z', 1, 1)},
		{remove(1), ins(1, 'y', 3, 1), "ay", del(2, 1, 1)},
		{remove(1), ins(2, 'y', 3, 1), "ay", del(1, 1, 1)},
		{remove(1), del(0, 3, 1), "", del(0, 1, 1)},
		{remove(1), del(1, 3, 1), "a", nop(1, 1)},
		{remove(0), del(1, 3, 1), "", del(0, 1, 1)},
		{remove(1), nop(3, 1), "a", del(1, 1, 1)},
	} {
		c := twoLetters(t)
		if _, e := x.own(c); e != api.OK {
			t.Fatalf("P11.2: error %d", e)
		}
		get(t, "P11.9", c, record(1, 3, 0, 3, x.theirs))
		wantDoc(t, "P11.9: past "+word(x.theirs), c, x.text, 3, x.form)
		refuse(t, "P11.6: one field is another", c, record(1, 4, 0, 4, other(x.form)), api.ErrOwn)
		get(t, "P11.6: the form that it waits for", c, record(1, 4, 0, 4, x.form))
		wantDoc(t, "P11.9: its own is told back", c, x.text, 4)
	}
}

// twoLetters gives client 1, open, with the text "ab" of client 2.
func twoLetters(t *testing.T) *client.Client {
	t.Helper()
	c := joined(t)
	get(t, "P11.9", c, record(1, 1, 0, 1, ins(0, 'a', 2, 1)))
	get(t, "P11.9", c, record(1, 2, 0, 2, ins(1, 'b', 2, 2)))
	wantDoc(t, "P11.9", c, "ab", 2)
	return c
}

func insert(pos, ch int) func(c *client.Client) (api.Edit, api.Errno) {
	return func(c *client.Client) (api.Edit, api.Errno) { return c.Insert(pos, ch) }
}

func remove(pos int) func(c *client.Client) (api.Edit, api.Errno) {
	return func(c *client.Client) (api.Edit, api.Errno) { return c.Delete(pos) }
}

// other gives an operation of the same edit that is not this one.
func other(op api.Op) api.Op {
	if op.Kind == api.Nop {
		return del(1, op.Client, op.Seq)
	}
	op.Pos++
	return op
}

// TestOwnRecordInEveryField: the client waits for one form of one edit.
func TestOwnRecordInEveryField(t *testing.T) {
	c := example(t, 4)
	for _, op := range ops(ins(0, 'a', 1, 1), ins(2, 'a', 1, 1), ins(1, 'b', 1, 1), ins(1, 'a', 1, 2), ins(2, 'b', 1, 2), del(1, 1, 1), nop(1, 1), ins(1, 'a', 1, 64)) {
		refuse(t, "P11.6", c, record(1, 2, 0, 2, op), api.ErrOwn)
	}
	get(t, "P11.6", c, record(1, 2, 0, 2, ins(1, 'a', 1, 1)))
	refuse(t, "P11.6: it was told back", c, record(1, 3, 0, 3, ins(1, 'a', 1, 1)), api.ErrOwn)
	get(t, "P11.6", c, record(1, 3, 0, 3, ins(2, 'b', 1, 2)))
	refuse(t, "P11.6: nothing is pending", c, record(1, 4, 0, 4, ins(2, 'b', 1, 2)), api.ErrOwn)
	refuse(t, "P11.6: nothing is pending", c, record(1, 4, 0, 4, ins(0, 'c', 1, 3)), api.ErrOwn)
	wantDoc(t, "P11.6", c, "xab", 3)
	refuse(t, "P11.6: none was ever made", joined(t), record(1, 1, 0, 1, ins(0, 'a', 1, 1)), api.ErrOwn)
}

// TestSeqsOfAnother: each maker's Seqs count from 1, one by one, over all epochs; of each maker apart.
func TestSeqsOfAnother(t *testing.T) {
	c, rev := joined(t), 0
	for seq := 1; seq <= 3; seq++ {
		for _, who := range []int{2, 64, 3} {
			num := rev + 1
			for wrong := 1; wrong <= api.MaxEdits; wrong++ {
				if wrong != seq {
					refuse(t, "P11.6", c, record(1, num, 0, num, ins(0, 'x', who, wrong)), api.ErrStrange)
				}
			}
			get(t, "P11.6", c, record(1, num, 0, num, ins(0, 'x', who, seq)))
			rev++
		}
	}
	get(t, "P11.7", c, invite(2))
	refuse(t, "P11.6: a new epoch begins no Seq anew", c, record(2, 1, 0, rev+1, ins(0, 'x', 2, 1)), api.ErrStrange)
	get(t, "P11.6", c, record(2, 1, 0, rev+1, ins(0, 'x', 2, 4)))
	refuse(t, "P11.6: of a maker of whom none was taken in", c, record(2, 2, 0, rev+2, ins(0, 'x', 4, 2)), api.ErrStrange)
}

// TestNopAndDeleteCountAsRecords: their Seqs go up too.
func TestNopAndDeleteCountAsRecords(t *testing.T) {
	c := joined(t)
	get(t, "P11.9", c, record(1, 1, 0, 1, nop(2, 1)))
	wantDoc(t, "P11.9: a Nop changes no text", c, "", 1)
	refuse(t, "P11.6", c, record(1, 2, 0, 2, nop(2, 1)), api.ErrStrange)
	get(t, "P11.9", c, record(1, 2, 0, 2, ins(0, 'x', 2, 2)))
	get(t, "P11.9", c, record(1, 3, 0, 3, del(0, 2, 3)))
	get(t, "P11.9", c, record(1, 4, 0, 4, nop(2, 4)))
	wantDoc(t, "P11.9", c, "", 4)
}

// TestPlacesOfAnother: what does not fit the text behind the forms is strange.
func TestPlacesOfAnother(t *testing.T) {
	const size = 2
	for pos := range 8 {
		wantTaken(t, ins(pos, 'y', 3, 1), pos <= size)
		wantTaken(t, del(pos, 3, 1), pos < size)
	}
	wantTaken(t, ins(4095, 'y', 3, 1), false)
	wantTaken(t, del(4095, 3, 1), false)
	wantTaken(t, nop(3, 1), true)
}

// wantTaken ends the test unless the client of the text "ab", with and without edits of its own, takes or refuses that operation.
func wantTaken(t *testing.T, op api.Op, taken bool) {
	t.Helper()
	for _, own := range []func(c *client.Client) (api.Edit, api.Errno){nil, insert(0, 'Z'), insert(2, 'Z'), remove(0), remove(1)} {
		c := twoLetters(t)
		if own != nil {
			own(c)
		}
		if taken {
			get(t, "P11.6", c, record(1, 3, 0, 3, op))
			wantSession(t, "P11.9", c, 1, true, c.View().Made, 3)
		} else {
			refuse(t, "P11.6", c, record(1, 3, 0, 3, op), api.ErrStrange)
		}
	}
}

// TestBeat: it opens, and takes its Ack; again it changes nothing.
func TestBeat(t *testing.T) {
	c := example(t, 2)
	refuse(t, "P11.5: another epoch", c, beat(2, 0), api.ErrStale)
	refuse(t, "P11.5: another epoch, ahead of the Ack", c, beat(2, 9), api.ErrStale)
	wantSession(t, "P11.5", c, 1, false, 2, 0)
	for range 3 {
		get(t, "P11.8", c, beat(1, 0))
		wantSession(t, "P11.8", c, 1, true, 2, 0)
		wantDoc(t, "P11.8", c, "ab", 0, ins(0, 'a', 1, 1), ins(1, 'b', 1, 2))
	}
	wantTick(t, "P11.8", c, edit(1, 1, 0, 0, ins(0, 'a', 1, 1)), edit(1, 2, 0, 0, ins(1, 'b', 1, 2)))
	refuse(t, "P11.5", c, beat(1, 3), api.ErrAck)
	get(t, "P11.8", c, beat(1, 2))
	wantTick(t, "P11.8", c, nod(1, 0))
}

// TestNoEpochYet: in epoch 0 an Invite alone is taken.
func TestNoEpochYet(t *testing.T) {
	for _, epoch := range []int{1, 2, 255} {
		c := newClient(t, 1)
		refuse(t, "P11.5: no epoch yet", c, beat(epoch, 0), api.ErrStale)
		refuse(t, "P11.5: no epoch yet", c, record(epoch, 1, 0, 1, ins(0, 'x', 2, 1)), api.ErrStale)
		get(t, "P11.7", c, invite(epoch))
		wantTick(t, "P11.7", c, hello(epoch, 0, 1))
	}
}

// TestViewTellsAll holds each field of View against what the other faces tell.
func TestViewTellsAll(t *testing.T) {
	c := example(t, 4)
	v := c.View()
	if v.ID != 1 || v.Epoch != 1 || !v.Open || v.Made != 2 || v.Have != 1 {
		t.Fatalf("P11.10: View %+v", v)
	}
	want := []api.Elem{{Ch: 'x', Client: 2, Seq: 1}, {Ch: 'a', Client: 1, Seq: 1}, {Ch: 'b', Client: 1, Seq: 2}}
	if !doc.Equal(v.Doc, want) || !doc.Equal(c.Doc(), want) {
		t.Fatalf("P11.10: the text %+v and %+v, want %+v", v.Doc, c.Doc(), want)
	}
	wantWhole(t, "P11.10", c)
}
