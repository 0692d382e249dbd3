package client_test

import (
	"slices"
	"testing"

	"jotter/api"
	"jotter/client"
	"jotter/doc"
)

// faults are the things that can be wrong with a record for client 1 of example 4, in the order in which they are looked at.
var faults = []struct {
	spoil func(m *api.Msg)
	want  api.Errno
}{
	{func(m *api.Msg) { m.Client = 2 }, api.ErrMine},
	{func(m *api.Msg) { m.Epoch = 2 }, api.ErrStale},
	{func(m *api.Msg) { m.Ack = 3 }, api.ErrAck},
	{func(m *api.Msg) { m.Rev++ }, api.ErrRev},
	{func(m *api.Msg) { m.Num, m.Rev = m.Num+8, m.Rev+8 }, api.ErrFar},
	{func(m *api.Msg) { m.Op = ins(0, 'y', 2, 3) }, api.ErrStrange},
}

// TestOrderOfErrors: of every choice of faults the first is told.
func TestOrderOfErrors(t *testing.T) {
	for choice := 1; choice < 1<<len(faults); choice++ {
		m, want := record(1, 2, 0, 2, ins(0, 'y', 2, 2)), api.OK
		for i := len(faults) - 1; i >= 0; i-- {
			if choice>>i&1 == 1 {
				faults[i].spoil(&m)
				want = faults[i].want
			}
		}
		refuse(t, "P11.5: the first of several", example(t, 4), m, want)
	}
	get(t, "P11.5: none", example(t, 4), record(1, 2, 0, 2, ins(0, 'y', 2, 2)))
}

func TestOrderOfErrorsOfABeat(t *testing.T) {
	c := example(t, 4)
	for _, epoch := range []int{1, 2} {
		for _, ack := range []int{0, 3} {
			refuse(t, "P11.5", c, to(beat(epoch, ack), 2), api.ErrMine)
		}
	}
	refuse(t, "P11.5", c, beat(2, 3), api.ErrStale)
	refuse(t, "P11.5", c, beat(1, 3), api.ErrAck)
	refuse(t, "P11.5", c, beat(1, 4096), api.ErrAck)
	get(t, "P11.5", c, beat(1, 2))
}

func TestOrderOfErrorsOfAnInvite(t *testing.T) {
	c := example(t, 4)
	get(t, "P11.7", c, invite(7))
	for epoch := 1; epoch <= 8; epoch++ {
		refuse(t, "P11.5", c, to(invite(epoch), 2), api.ErrMine)
		if epoch < 7 {
			refuse(t, "P11.5", c, invite(epoch), api.ErrStale)
		}
	}
}

// TestOwnIsToldWhereStrangeIs: a record of the client's own comes as late in the order as another's.
func TestOwnIsToldWhereStrangeIs(t *testing.T) {
	c, own := example(t, 4), ins(0, 'a', 1, 1)
	refuse(t, "P11.5", c, record(1, 2, 0, 2, own), api.ErrOwn)
	refuse(t, "P11.5", c, record(1, 10, 0, 10, own), api.ErrFar)
	refuse(t, "P11.5", c, record(1, 2, 0, 3, own), api.ErrRev)
	refuse(t, "P11.5", c, record(1, 2, 3, 2, own), api.ErrAck)
	refuse(t, "P11.5", c, record(2, 2, 0, 2, own), api.ErrStale)
	refuse(t, "P11.5", c, to(record(1, 2, 0, 2, own), 2), api.ErrMine)
}

// TestDuplicatesAreLookedAtToo: their epoch, Ack and Rev, not their operation.
func TestDuplicatesAreLookedAtToo(t *testing.T) {
	c := example(t, 4)
	get(t, "P11.9: early", c, record(1, 4, 0, 4, ins(0, 'z', 4, 1)))
	for _, num := range []int{1, 4} {
		strange := ins(4095, 'q', 9, 64)
		refuse(t, "P11.5: a duplicate", c, record(2, num, 0, num, strange), api.ErrStale)
		refuse(t, "P11.5: a duplicate", c, record(1, num, 3, num, strange), api.ErrAck)
		refuse(t, "P11.5: a duplicate", c, record(1, num, 0, num+1, strange), api.ErrRev)
		for _, op := range ops(strange, ins(0, 'a', 1, 1), nop(1, 64)) {
			get(t, "P11.9: a duplicate", c, record(1, num, 0, num, op))
			wantDoc(t, "P11.9: a duplicate changes nothing", c, "xab", 1, ins(1, 'a', 1, 1), ins(2, 'b', 1, 2))
		}
	}
	get(t, "P11.9", c, record(1, 2, 0, 2, ins(1, 'a', 1, 1)))
	get(t, "P11.9", c, record(1, 3, 0, 3, ins(2, 'b', 1, 2)))
	wantDoc(t, "P11.9: the one that was held first", c, "zxab", 4)
}

// TestDuplicateGivesItsAck: that of a taken one, and that of a held one.
func TestDuplicateGivesItsAck(t *testing.T) {
	c := example(t, 4)
	get(t, "P11.9", c, record(1, 1, 1, 1, ins(0, 'x', 2, 1)))
	wantTick(t, "P11.9: a duplicate's Ack", c, edit(1, 2, 1, 0, ins(1, 'b', 1, 2)))
	get(t, "P11.9", c, record(1, 5, 0, 5, del(0, 2, 2)))
	get(t, "P11.9", c, record(1, 5, 2, 5, del(0, 2, 2)))
	wantTick(t, "P11.9: a held one's Ack", c, nod(1, 1))
}

// TestRecordOpens: the first one of an epoch does, an early one too, and a duplicate; a refused one does not.
func TestRecordOpens(t *testing.T) {
	for _, num := range []int{1, 2, 8} {
		c := example(t, 2)
		refuse(t, "P11.5", c, record(1, num, 0, num+1, ins(0, 'x', 2, 1)), api.ErrRev)
		refuse(t, "P11.5", c, record(1, num+8, 0, num+8, ins(0, 'x', 2, 1)), api.ErrFar)
		refuse(t, "P11.6", c, record(1, 1, 0, 1, ins(0, 'x', 2, 2)), api.ErrStrange)
		wantSession(t, "P11.9: refused", c, 1, false, 2, 0)
		get(t, "P11.9", c, record(1, num, 0, num, ins(0, 'x', 2, 1)))
		if !c.View().Open {
			t.Fatalf("P11.9: the record %d does not open", num)
		}
	}
}

// TestInviteOfTheSameEpoch: it changes nothing, whether the client is open or not, whatever is held and sent.
func TestInviteOfTheSameEpoch(t *testing.T) {
	c := example(t, 4)
	get(t, "P11.9", c, record(1, 3, 1, 3, del(0, 2, 2)))
	before := see(c)
	get(t, "P11.7", c, invite(1))
	if after := see(c); !after.equal(before) {
		t.Fatalf("P11.7: %s, before %s", after, before)
	}
	wantTick(t, "P11.7: the outbox stays", c, edit(1, 2, 1, 0, ins(1, 'b', 1, 2)))
	get(t, "P11.7: the base stays", c, record(1, 2, 2, 2, ins(1, 'a', 1, 1)))
	wantDoc(t, "P11.7: the inbox stays", c, "ab", 3, ins(1, 'b', 1, 2))
}

// TestInviteOfAGreaterEpoch: both halves of the link begin anew, from every epoch on, open or not.
func TestInviteOfAGreaterEpoch(t *testing.T) {
	for _, epoch := range []int{2, 3, 254, 255} {
		c := example(t, 4)
		get(t, "P11.8", c, beat(1, 1))
		get(t, "P11.9: early", c, record(1, 3, 1, 3, del(0, 2, 2)))
		get(t, "P11.7", c, invite(epoch))
		wantSession(t, "P11.7", c, epoch, false, 2, 1)
		wantDoc(t, "P11.7", c, "xab", 1, ins(1, 'a', 1, 1), ins(2, 'b', 1, 2))
		refuse(t, "P11.7: nothing counts as sent", c, beat(epoch, 1), api.ErrAck)
		refuse(t, "P11.7: the base is Have", c, record(epoch, 2, 0, 2, ins(1, 'a', 1, 1)), api.ErrRev)
		wantTick(t, "P11.7", c, hello(epoch, 1, 1))
		get(t, "P11.9", c, record(epoch, 1, 0, 2, ins(1, 'a', 1, 1)))
		wantDoc(t, "P11.7: what was held is lost", c, "xab", 2, ins(2, 'b', 1, 2))
		wantTick(t, "P11.7: all of Pending, from 1", c, edit(epoch, 1, 1, 0, ins(0, 'a', 1, 1)), edit(epoch, 2, 1, 0, ins(1, 'b', 1, 2)))
		get(t, "P11.8", c, beat(epoch, 2))
		wantTick(t, "P11.8", c, nod(epoch, 1))
	}
}

// TestInvitesOneBehindTheOther: not open in between; Pending is pushed once.
func TestInvitesOneBehindTheOther(t *testing.T) {
	c := example(t, 4)
	get(t, "P11.9", c, record(1, 2, 1, 2, ins(1, 'a', 1, 1)))
	for epoch := 2; epoch <= api.MaxEpoch; epoch++ {
		get(t, "P11.7", c, invite(epoch))
		wantTick(t, "P11.7", c, hello(epoch, 2, 2))
	}
	get(t, "P11.8", c, beat(255, 0))
	wantTick(t, "P11.7: pushed once", c, edit(255, 1, 0, 0, ins(1, 'b', 1, 2)))
	refuse(t, "P11.5", c, invite(254), api.ErrStale)
	get(t, "P11.7", c, invite(255))
	wantSession(t, "P11.7", c, 255, true, 2, 2)
}

// TestReorder: all orders in which the records of a link can come, each of them once or twice.
func TestReorder(t *testing.T) {
	line := ops(ins(0, 'x', 2, 1), ins(1, 'y', 3, 1), del(0, 2, 2), ins(1, 'z', 4, 1), ins(0, 'w', 2, 3))
	for _, order := range orders(len(line)) {
		c := joined(t)
		came := map[int]int{}
		for _, i := range order {
			for range 2 {
				get(t, "P11.9", c, record(1, i+1, 0, i+1, line[i]))
			}
			came[i]++
			have := 0
			for came[have] > 0 {
				have++
			}
			want, _, _ := doc.Replay(line[:have]...)
			wantDoc(t, "P11.9: in their order", c, doc.Text(want), have)
			wantTick(t, "P11.4: the inbox's Cum", c, nod(1, have))
		}
	}
}

// orders gives all orders of the numbers below n.
func orders(n int) [][]int {
	if n == 0 {
		return [][]int{nil}
	}
	var all [][]int
	for _, order := range orders(n - 1) {
		for at := range n {
			all = append(all, slices.Insert(slices.Clone(order), at, n-1))
		}
	}
	return all
}

// TestFar: eight numbers from the next one on are taken, and no more, wherever the next one is.
func TestFar(t *testing.T) {
	c := joined(t)
	for range 20 {
		cum := c.View().Have
		for num := cum + 9; num < cum+12; num++ {
			refuse(t, "P11.5", c, record(1, num, 0, num, ins(0, 'x', 2, cum+1)), api.ErrFar)
		}
		refuse(t, "P11.5", c, record(1, 4096, 0, 4096, ins(0, 'x', 2, cum+1)), api.ErrFar)
		get(t, "P11.9: the eighth", c, record(1, cum+8, 0, cum+8, ins(0, 'x', 2, cum+8)))
		get(t, "P11.9: the next", c, record(1, cum+1, 0, cum+1, ins(0, 'x', 2, cum+1)))
	}
	if have := c.View().Have; have != 34 {
		t.Fatalf("P11.9: Have %d, want 34", have)
	}
}

// tossing gives client 1 of example 4 that holds three: 3 and 5 are good at their turn, 4 is what is handed in.
func tossing(t *testing.T, bad api.Op) *client.Client {
	t.Helper()
	c := example(t, 4)
	get(t, "P11.9: early", c, record(1, 5, 0, 5, ins(0, 'r', 4, 1)))
	get(t, "P11.9: early", c, record(1, 4, 0, 4, bad))
	get(t, "P11.9: early", c, record(1, 3, 0, 3, ins(0, 'q', 3, 1)))
	wantDoc(t, "P11.9: all are held", c, "xab", 1, ins(1, 'a', 1, 1), ins(2, 'b', 1, 2))
	get(t, "P11.9", c, record(1, 2, 1, 2, ins(1, 'a', 1, 1)))
	return c
}

// TestToss: one that is not acceptable at its turn is thrown out alone, and its number may come again.
func TestToss(t *testing.T) {
	for _, bad := range ops(ins(4, 'y', 5, 1), ins(0, 'y', 5, 2), ins(0, 'y', 2, 1), del(3, 5, 1), ins(2, 'b', 1, 2), ins(1, 'a', 1, 1), nop(1, 2), nop(2, 1)) {
		c := tossing(t, bad)
		wantDoc(t, "P11.9: the fourth is tossed", c, "qxab", 3, ins(3, 'b', 1, 2))
		wantTick(t, "P11.9: the Ack was taken", c, edit(1, 2, 3, 0, ins(1, 'b', 1, 2)))
		refuse(t, "P11.6: its turn is now", c, record(1, 4, 0, 4, bad), api.ErrOwn+strangeness(bad))
		get(t, "P11.9: duplicates bring no turn", c, record(1, 5, 0, 5, ins(0, 'r', 4, 1)))
		wantDoc(t, "P11.9", c, "qxab", 3, ins(3, 'b', 1, 2))
		get(t, "P11.9: it comes again", c, record(1, 4, 0, 4, ins(3, 'b', 1, 2)))
		wantDoc(t, "P11.9: and the one behind it was held still", c, "rqxab", 5)
	}
}

// strangeness tells how far the error of an operation is from ErrOwn: 0 of the client's own.
func strangeness(op api.Op) api.Errno {
	if op.Client == 1 {
		return 0
	}
	return api.ErrStrange - api.ErrOwn
}

// TestTheTurnCounts: what would be strange when it comes may be good at its turn, and the other way round.
func TestTheTurnCounts(t *testing.T) {
	c := joined(t)
	get(t, "P11.9: strange by now", c, record(1, 2, 0, 2, ins(1, 'y', 2, 2)))
	get(t, "P11.9: its own, not made yet", c, record(1, 3, 0, 3, ins(2, 'a', 1, 1)))
	get(t, "P11.9: good by now", c, record(1, 4, 0, 4, ins(0, 'z', 2, 1)))
	wantInsert(t, "P11.2", c, 0, 'a', 0)
	get(t, "P11.9", c, record(1, 1, 0, 1, ins(0, 'x', 2, 1)))
	wantDoc(t, "P11.9: another's past its own", c, "xya", 3)
	refuse(t, "P11.6: the fourth was tossed", c, record(1, 4, 0, 4, ins(0, 'z', 2, 1)), api.ErrStrange)
	get(t, "P11.6", c, record(1, 4, 0, 4, ins(0, 'z', 3, 1)))
	wantDoc(t, "P11.9", c, "zxya", 4)
}

// TestTossedAtTheEndOfALink leaves the link as it was: eight numbers are taken again.
func TestTossedAtTheEndOfALink(t *testing.T) {
	c := tossing(t, nop(2, 1))
	refuse(t, "P11.5", c, record(1, 12, 0, 12, nop(6, 1)), api.ErrFar)
	get(t, "P11.9", c, record(1, 11, 0, 11, nop(6, 1)))
	get(t, "P11.7", c, invite(2))
	get(t, "P11.9: what was tossed is new in a new epoch", c, record(2, 1, 0, 4, nop(2, 2)))
	wantDoc(t, "P11.7: nothing is held", c, "qxab", 4, ins(3, 'b', 1, 2))
}
