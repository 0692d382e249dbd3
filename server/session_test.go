package server_test

import (
	"testing"

	"jotter/api"
	"jotter/disk"
	"jotter/server"
)

// TestHelloHave: Have is between the client's last tag in the log and what is synced.
func TestHelloHave(t *testing.T) {
	image := imageOf(bootPayload(1), editPayload(0, ins(0, 'a', 1, 1)), editPayload(1, ins(0, 'b', 2, 1)), editPayload(2, ins(0, 'c', 1, 2)), editPayload(0, ins(0, 'd', 3, 1)))
	for _, c := range []struct {
		who, have, first int
		want             api.Errno
	}{
		// Client 1's last tag is 2; the records 1 and 3 are its own.
		{1, 0, 1, api.ErrHave}, {1, 1, 2, api.ErrHave}, {1, 2, 2, api.OK}, {1, 3, 3, api.OK}, {1, 4, 3, api.OK}, {1, 5, 3, api.ErrHave}, {1, 4096, 3, api.ErrHave},
		{1, 2, 1, api.ErrFirst}, {1, 2, 3, api.ErrFirst}, {1, 3, 2, api.ErrFirst}, {1, 4, 2, api.ErrFirst}, {1, 4, 4, api.ErrFirst}, {1, 0, 9, api.ErrHave},
		// Client 2's last tag is 1; the record 2 is its own.
		{2, 0, 1, api.ErrHave}, {2, 1, 1, api.OK}, {2, 2, 2, api.OK}, {2, 2, 1, api.ErrFirst}, {2, 1, 2, api.ErrFirst}, {2, 4, 2, api.OK},
		// Client 3's last tag is 0; the record 4 is its own. Client 4 has none.
		{3, 0, 1, api.OK}, {3, 3, 1, api.OK}, {3, 4, 2, api.OK}, {3, 4, 1, api.ErrFirst}, {4, 0, 1, api.OK}, {4, 4, 1, api.OK}, {4, 4, 5, api.ErrFirst},
	} {
		s := start(t, diskOf(t, image, len(image)), 4)
		m := of(2, hello(c.who, c.have, c.first))
		if c.want != api.OK {
			refuse(t, "P13.4", s, m, c.want)
			continue
		}
		get(t, "P13.4", s, m)
		wantLink(t, "P13.4", s, c.who, api.LinkView{Open: true, Base: c.have, From: c.first})
	}
}

// TestHelloOfWhatIsNotSynced: nobody can have records that nobody was told.
func TestHelloOfWhatIsNotSynced(t *testing.T) {
	s, _ := example5(t)
	for have := 2; have <= 4; have++ {
		refuse(t, "P13.4", s, hello(2, have, 1), api.ErrHave)
	}
	s.Tick()
	refuse(t, "P13.4", s, hello(2, 4, 1), api.ErrHave)
	get(t, "P13.4", s, hello(2, 3, 1))
	wantLink(t, "P13.4", s, 2, api.LinkView{Open: true, Base: 3, From: 1})
}

// TestSecondHello: it changes nothing, whatever it holds, also what is not seen: the things that are held, and what is due.
func TestSecondHello(t *testing.T) {
	s, _ := example3(t)
	get(t, "P13.6", s, edit(3, 0, 0, ins(2, 'c', 1, 3)))
	for _, m := range []api.Msg{hello(1, 0, 1), hello(1, 1, 2), hello(1, 4096, 65), hello(1, 0, 65)} {
		getIdle(t, "P13.4", s, m)
	}
	wantTick(t, "P13.4", s, record(1, 1, 1, 1, ins(0, 'a', 1, 1)), invite(2))
	get(t, "P13.6", s, edit(2, 0, 0, ins(1, 'b', 1, 2)))
	wantState(t, "P13.4: the edit that was held is held still", s, 3, 1, "abc", "a")
}

// typed gives a server of one client that has sent so many edits, none of them synced: a, b, c ..
func typed(t *testing.T, edits int) (*server.Server, []api.Op) {
	t.Helper()
	s := start(t, disk.New(), 1)
	get(t, "P13.4", s, hello(1, 0, 1))
	var ops []api.Op
	for i := range edits {
		ops = append(ops, ins(i, 'a'+byte(i%26), 1, i+1))
		get(t, "P13.6", s, edit(i+1, 0, 0, ops[i]))
	}
	return s, ops
}

// records gives the messages of these records, to client 1 with Base 0.
func records(ops []api.Op, from, to, ack int) []api.Msg {
	var list []api.Msg
	for n := from; n <= to; n++ {
		list = append(list, record(1, n, ack, n, ops[n-1]))
	}
	return list
}

// TestWindow: eight are due, from the first that is not acknowledged.
func TestWindow(t *testing.T) {
	s, ops := typed(t, 20)
	refuse(t, "P13.5: nothing was sent yet", s, nod(1, 1), api.ErrAck)
	wantTick(t, "P13.2", s, records(ops, 1, 8, 20)...)
	refuse(t, "P13.5", s, nod(1, 9), api.ErrAck)
	getIdle(t, "P13.5", s, nod(1, 0))
	get(t, "P13.5", s, nod(1, 5))
	wantLink(t, "P13.5", s, 1, api.LinkView{Open: true, From: 1, Sent: 8, Got: 5, Cum: 20})
	refuse(t, "P13.5: an Ack sends nothing", s, nod(1, 9), api.ErrAck)
	wantTick(t, "P13.2", s, records(ops, 6, 13, 20)...)
	getIdle(t, "P13.5: an old Ack", s, nod(1, 3))
	wantTick(t, "P13.2", s, records(ops, 6, 13, 20)...)
	get(t, "P13.5", s, nod(1, 13))
	wantTick(t, "P13.2", s, records(ops, 14, 20, 20)...)
	get(t, "P13.5", s, nod(1, 20))
	wantTick(t, "P13.2", s, beat(1, 20))
	get(t, "P13.6", s, edit(21, 7, 20, ins(0, 'z', 1, 21)))
	wantLink(t, "P13.6: an old Ack", s, 1, api.LinkView{Open: true, From: 1, Sent: 20, Got: 20, Cum: 21})
	wantTick(t, "P13.2", s, record(1, 21, 21, 21, ins(0, 'z', 1, 21)))
}

// TestReorder: of the numbers above Cum eight are taken, in any order, and each at most once.
func TestReorder(t *testing.T) {
	s, ops := typed(t, 3)
	more := []api.Op{}
	for i := 3; i < 12; i++ {
		more = append(more, ins(i, 'a'+byte(i), 1, i+1))
	}
	refuse(t, "P13.6", s, edit(12, 0, 0, more[8]), api.ErrFar)
	for num := 11; num >= 5; num-- {
		getIdle(t, "P13.6: it waits", s, edit(num, 0, 0, more[num-4]))
	}
	getIdle(t, "P13.6: the first one stays", s, edit(6, 0, 0, ins(0, '!', 1, 6)))
	getIdle(t, "P13.6: of a held one the book is not asked", s, edit(7, 0, 0, nop(1, 7)))
	getIdle(t, "P13.6: of an old one neither", s, edit(2, 0, 0, del(99, 1, 2)))
	refuse(t, "P13.6", s, edit(12, 0, 0, more[8]), api.ErrFar)
	get(t, "P13.6", s, edit(4, 0, 0, more[0]))
	wantState(t, "P13.6", s, 11, 0, "abcdefghijk", "")
	get(t, "P13.6", s, edit(12, 0, 0, more[8]))
	wantState(t, "P13.6", s, 12, 0, "abcdefghijkl", "")
	wantTick(t, "P13.2", s, records(append(ops, more...), 1, 8, 12)...)
}

// TestAckOfARefusedEdit: a refused datagram's Ack is not given on.
func TestAckOfARefusedEdit(t *testing.T) {
	s, ops := typed(t, 2)
	wantTick(t, "P13.2", s, records(ops, 1, 2, 2)...)
	refuse(t, "P13.6", s, edit(3, 2, 0, del(9, 1, 3)), api.ErrPlace)
	refuse(t, "P13.6", s, edit(3, 1, 3, ins(0, 'x', 1, 3)), api.ErrSent)
	refuse(t, "P13.6", s, edit(11, 1, 0, ins(0, 'x', 1, 11)), api.ErrFar)
	refuse(t, "P13.6", s, edit(3, 1, 0, ins(0, 'x', 1, 4)), api.ErrSeq)
	getIdleBut(t, s, edit(1, 1, 0, ops[0])) // a duplicate's is
	wantLink(t, "P13.6", s, 1, api.LinkView{Open: true, From: 1, Sent: 2, Got: 1, Cum: 2})
	getIdleBut(t, s, edit(5, 2, 0, ins(0, 'x', 1, 5))) // and an early one's
	wantLink(t, "P13.6", s, 1, api.LinkView{Open: true, From: 1, Sent: 2, Got: 2, Cum: 2})
	wantTick(t, "P13.2", s, beat(1, 2))
}

// TestTagsOfWhatWasSent: a tag is of records that the client had when it joined, or that were due since.
func TestTagsOfWhatWasSent(t *testing.T) {
	s, _ := typed(t, 10)
	refuse(t, "P13.6: nothing was sent", s, edit(11, 0, 1, ins(0, 'x', 1, 11)), api.ErrSent)
	s.Tick()
	refuse(t, "P13.6: eight were sent", s, edit(11, 0, 9, ins(0, 'x', 1, 11)), api.ErrSent)
	get(t, "P13.6", s, edit(11, 0, 8, ins(0, 'x', 1, 11)))
	refuse(t, "P13.6: tags do not fall", s, edit(12, 0, 7, ins(0, 'x', 1, 12)), api.ErrTag)
	get(t, "P13.6", s, edit(12, 8, 8, ins(0, 'x', 1, 12)))
	wantState(t, "P13.6", s, 12, 10, "xxabcdefghij", "abcdefghij")
}

// TestTagsAboveTheBase: one who joins with records may have them as tags at once.
func TestTagsAboveTheBase(t *testing.T) {
	d := diskOf(t, imageOf(bootPayload(1), editPayload(0, ins(0, 'a', 9, 1)), editPayload(0, ins(1, 'b', 9, 2)), editPayload(0, ins(2, 'c', 9, 3))), 0)
	s := start(t, d, 1)
	get(t, "P13.4", s, of(2, hello(1, 2, 1)))
	refuse(t, "P13.6: Base is 2", s, of(2, edit(1, 0, 3, ins(3, 'x', 1, 1))), api.ErrSent)
	refuse(t, "P13.6: two characters", s, of(2, edit(1, 0, 2, ins(3, 'x', 1, 1))), api.ErrPlace)
	get(t, "P13.6", s, of(2, edit(1, 0, 2, ins(2, 'x', 1, 1))))
	wantState(t, "P13.6: c was there first", s, 4, 3, "abcx", "abc")
	wantTick(t, "P13.2", s, of(2, record(1, 1, 1, 3, ins(2, 'c', 9, 3))), of(2, record(1, 2, 1, 4, ins(3, 'x', 1, 1))))
	get(t, "P13.6", s, of(2, edit(2, 1, 4, del(0, 1, 2))))
	wantTick(t, "P13.2", s, of(2, record(1, 2, 2, 4, ins(3, 'x', 1, 1))), of(2, record(1, 3, 2, 5, del(0, 1, 2))))
}

// TestTossedInARow: one that cannot stand ends the taking; those behind it wait for it.
func TestTossedInARow(t *testing.T) {
	s, _ := example3(t)
	get(t, "P13.6", s, edit(5, 0, 0, ins(0, 'e', 1, 5)))
	get(t, "P13.6", s, edit(4, 0, 0, del(50, 1, 4)))
	get(t, "P13.6", s, edit(3, 0, 1, ins(0, 'c', 1, 3)))
	get(t, "P13.6", s, edit(2, 0, 0, ins(0, 'b', 1, 2)))
	wantState(t, "P13.6: 4 was tossed", s, 3, 1, "cba", "a")
	wantLink(t, "P13.6", s, 1, api.LinkView{Open: true, From: 1, Sent: 1, Cum: 3})
	getIdle(t, "P13.6: 5 is held still", s, edit(5, 0, 1, ins(0, '!', 1, 5)))
	refuse(t, "P13.6", s, edit(4, 0, 0, ins(0, 'd', 1, 4)), api.ErrTag)
	get(t, "P13.6", s, edit(4, 0, 1, ins(0, 'd', 1, 4)))
	wantState(t, "P13.6: the 5 that was held has a tag that falls", s, 4, 1, "dcba", "a")
	wantLink(t, "P13.6", s, 1, api.LinkView{Open: true, From: 1, Sent: 1, Cum: 4})
	get(t, "P13.6: 5 was tossed, and comes again", s, edit(5, 0, 1, ins(0, 'E', 1, 5)))
	wantState(t, "P13.6", s, 5, 1, "Edcba", "a")
}

// TestNopThatWaited: a Nop is no edit, and is found out at its turn.
func TestNopThatWaited(t *testing.T) {
	s, _ := example3(t)
	getIdle(t, "P13.6", s, edit(3, 0, 0, nop(1, 3)))
	get(t, "P13.6", s, edit(2, 0, 0, ins(0, 'b', 1, 2)))
	wantState(t, "P13.6", s, 2, 1, "ba", "a")
	get(t, "P13.6", s, edit(3, 0, 0, ins(0, 'c', 1, 3)))
	wantState(t, "P13.6", s, 3, 1, "cba", "a")
}

// TestEditsOfAnEarlierEpoch: what is in the log already is passed over, whatever it says by now, also if it waited.
func TestEditsOfAnEarlierEpoch(t *testing.T) {
	d := diskOf(t, imageOf(bootPayload(1), editPayload(0, ins(0, 'a', 1, 1)), editPayload(0, ins(1, 'b', 1, 2)), editPayload(0, ins(2, 'c', 1, 3))), 0)
	s := start(t, d, 1)
	get(t, "P13.4", s, of(2, hello(1, 1, 2)))
	refuse(t, "P13.6: it is in the log, and yet no Seq of this number", s, of(2, edit(1, 0, 0, ins(0, 'a', 1, 1))), api.ErrSeq)
	refuse(t, "P13.6: it is in the log, and yet of what was not sent", s, of(2, edit(1, 0, 2, ins(1, 'b', 1, 2))), api.ErrSent)
	getIdle(t, "P13.6: it waits", s, of(2, edit(3, 0, 0, ins(3, 'd', 1, 4))))
	getIdle(t, "P13.6: it waits", s, of(2, edit(2, 0, 0, nop(1, 3))))
	get(t, "P13.6", s, of(2, edit(1, 0, 1, del(77, 1, 2))))
	wantState(t, "P13.6", s, 4, 3, "abcd", "abc")
	wantLink(t, "P13.6", s, 1, api.LinkView{Open: true, Base: 1, From: 2, Cum: 3})
	wantTick(t, "P13.2", s, of(2, record(1, 1, 3, 2, ins(1, 'b', 1, 2))), of(2, record(1, 2, 3, 3, ins(2, 'c', 1, 3))), of(2, record(1, 3, 3, 4, ins(3, 'd', 1, 4))))
}

// TestSessionsStandApart: what one client says touches no other's session.
func TestSessionsStandApart(t *testing.T) {
	s := start(t, disk.New(), 3)
	for who := 1; who <= 3; who++ {
		get(t, "P13.4", s, hello(who, 0, 1))
	}
	get(t, "P13.6", s, edit(1, 0, 0, ins(0, 'a', 2, 1)))
	wantTick(t, "P13.2", s, record(1, 1, 0, 1, ins(0, 'a', 2, 1)), record(2, 1, 1, 1, ins(0, 'a', 2, 1)), record(3, 1, 0, 1, ins(0, 'a', 2, 1)))
	get(t, "P13.5", s, nod(3, 1))
	getIdle(t, "P13.6", s, edit(2, 0, 1, ins(0, 'z', 3, 2)))
	get(t, "P13.6", s, edit(1, 0, 0, ins(0, 'b', 1, 1)))
	wantState(t, "P13.6: client 3's waits for client 3's", s, 2, 1, "ab", "a")
	a, b := ins(0, 'a', 2, 1), ins(1, 'b', 1, 1)
	wantTick(t, "P13.2", s, record(1, 1, 1, 1, a), record(1, 2, 1, 2, b), record(2, 1, 1, 1, a), record(2, 2, 1, 2, b), record(3, 2, 0, 2, b))
	wantLink(t, "P13.7", s, 1, api.LinkView{Open: true, From: 1, Sent: 2, Cum: 1})
	wantLink(t, "P13.7", s, 2, api.LinkView{Open: true, From: 1, Sent: 2, Cum: 1})
	wantLink(t, "P13.7", s, 3, api.LinkView{Open: true, From: 1, Sent: 2, Got: 1})
}

// TestNopsAreTold: a record with nothing left to do is told as such.
func TestNopsAreTold(t *testing.T) {
	s := start(t, disk.New(), 2)
	get(t, "P13.4", s, hello(1, 0, 1))
	get(t, "P13.4", s, hello(2, 0, 1))
	get(t, "P13.6", s, edit(1, 0, 0, ins(0, 'a', 1, 1)))
	s.Tick()
	get(t, "P13.6", s, edit(2, 1, 1, del(0, 1, 2)))
	get(t, "P13.6", s, edit(1, 1, 1, del(0, 2, 1)))
	wantState(t, "P13.7", s, 3, 1, "", "a")
	wantTick(t, "P13.2", s, record(1, 2, 2, 2, del(0, 1, 2)), record(1, 3, 2, 3, nop(2, 1)), record(2, 2, 1, 2, del(0, 1, 2)), record(2, 3, 1, 3, nop(2, 1)))
}

// TestReceiveSyncsNothing: only a start and a tick do.
func TestReceiveSyncsNothing(t *testing.T) {
	s, d := example5(t)
	if d.Size() != 61 || d.Synced() != 27 {
		t.Fatalf("P13.6: the disk has %d bytes, %d synced, want 61, 27", d.Size(), d.Synced())
	}
	s.View()
	s.Edits()
	if d.Synced() != 27 {
		t.Fatalf("P13.7: a look syncs")
	}
	s.Tick()
	if d.Size() != 61 || d.Synced() != 61 {
		t.Fatalf("P13.2: the disk has %d bytes, %d synced, want 61, 61", d.Size(), d.Synced())
	}
}
