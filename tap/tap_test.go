package tap_test

import (
	"testing"

	"jotter/api"
	"jotter/tap"
)

// The chapter's operations.
func a1() api.Op { return ins(0, 'a', 1, 1) }
func b1() api.Op { return ins(1, 'b', 2, 1) }

// behindExample3 gives the tap of the chapter's third example.
func behindExample3(t *testing.T) *tap.Tap {
	t.Helper()
	return tapOf(t, 2, rec(1, 2, 2, b1()), rec(2, 1, 1, a1()), edit(2, 1, 0, ins(0, 'b', 2, 1)), edit(1, 2, 1, del(0, 1, 2)))
}

func TestNew(t *testing.T) {
	for _, n := range append(far(), 0) {
		if x, e := tap.New(n); x != nil || e != api.ErrClients {
			t.Errorf("P28.1: New(%d) = %v, %d, want nil, %d", n, x != nil, e, api.ErrClients)
		}
	}
	for _, n := range []int{1, 2, 63, 64} {
		wantNothing(t, newTap(t, n))
	}
}

// TestExamples: the chapter's examples 2 to 5, each step.
func TestExamples(t *testing.T) {
	x := newTap(t, 2)
	mustSee(t, x, rec(1, 2, 2, b1()))
	wantKnown(t, x, 2)
	wantRecords(t, x, "")
	mustSee(t, x, rec(2, 1, 1, a1()))
	wantKnown(t, x, 1, 2)
	wantRecords(t, x, "ab", a1(), b1())
	wantEpoch(t, x, 1)

	mustSee(t, x, edit(2, 1, 0, ins(0, 'b', 2, 1)))
	wantMade(t, x, 2, made(0, ins(0, 'b', 2, 1)))
	wantWaiting(t, x, 2)
	mustSee(t, x, edit(1, 2, 1, del(0, 1, 2)))
	wantMade(t, x, 1, made(1, del(0, 1, 2)))
	wantWaiting(t, x, 1, made(1, del(0, 1, 2)))

	wantNo(t, x, rec(1, 3, 3, ins(0, 'x', 1, 2)), 3, api.ErrTwo)
	mustSee(t, x, rec(1, 3, 3, nop(1, 2)))
	wantWaiting(t, x, 1)
	wantRecords(t, x, "ab", a1(), b1(), nop(1, 2))

	wantNo(t, x, rec(2, 5, 2, ins(0, 'b', 2, 1)), 2, api.ErrTwo)
	wantNo(t, x, rec(2, 4, 4, b1()), 4, api.ErrTwo)
	wantNo(t, x, edit(2, 1, 1, ins(0, 'b', 2, 1)), 1, api.ErrTwo)
	wantNoNews(t, x, edit(2, 9, 0, ins(0, 'b', 2, 1)))
}

// TestExamplesOfWays: the chapter's examples 6 and 7.
func TestExamplesOfWays(t *testing.T) {
	x := newTap(t, 2)
	wantAstray(t, x, inv(1), 0, 2, api.ErrProof)
	wantAstray(t, x, inv(1), 1, 0, api.ErrProof)
	wantAstray(t, x, inv(1), 0, 3, api.ErrAddress)
	wantAstray(t, x, inv(1), 1, 2, api.ErrAddress)
	wantAstray(t, x, inv(1), 0, 0, api.ErrAddress)
	wantRefused(t, x, api.Datagram{To: 1}, 0, api.ErrLength)
	wantAstray(t, x, edit(2, 1, 0, ins(0, 'b', 2, 1)), 1, 0, api.ErrProof)
	wantNothing(t, x)
	mustSee(t, x, in(7, inv(1)))
	wantEpoch(t, x, 7)
	mustSee(t, x, in(3, beat(2)))
	wantEpoch(t, x, 7)
}

// TestExamplesOfNoBeginning: the chapter's example 8.
func TestExamplesOfNoBeginning(t *testing.T) {
	for _, op := range []api.Op{ins(5, 'a', 1, 1), ins(0, 'a', 1, 2)} {
		x := tapOf(t, 2, rec(1, 1, 1, op))
		wantKnown(t, x, 1)
		wantRecords(t, x, "")
	}
}

// TestAddresses: one end is the server, the other one of the clients; that is looked at ahead of the bytes, whatever they are.
func TestAddresses(t *testing.T) {
	for _, n := range []int{1, 2, 64} {
		x := newTap(t, n)
		ends := append(far(), 0, 1, 2, 3, 63, 64)
		for _, from := range ends {
			for _, to := range ends {
				if from == 0 && to >= 1 && to <= n || to == 0 && from >= 1 && from <= n {
					continue
				}
				for _, b := range [][]byte{nil, make([]byte, 65), bytesOf(t, inv(1)), bytesOf(t, nod(2))} {
					wantRefused(t, x, api.Datagram{From: from, To: to, Bytes: b}, 0, api.ErrAddress)
				}
			}
		}
		wantNothing(t, x)
	}
}

// TestBytes: wire's error is answered as it is, ahead of the way that the message goes.
func TestBytes(t *testing.T) {
	x := tapOf(t, 2, rec(1, 1, 1, a1()))
	spoilt := func(m api.Msg, at int) []byte {
		b := bytesOf(t, m)
		b[at] ^= 255
		return b
	}
	for _, c := range []struct {
		b    []byte
		at   int
		want api.Errno
	}{
		{nil, 0, api.ErrLength},
		{make([]byte, 3), 3, api.ErrLength},
		{make([]byte, 4), 0, api.ErrLength},
		{make([]byte, 64), 60, api.ErrDatagram},
		{make([]byte, 65), 64, api.ErrFrame},
		{spoilt(inv(1), 0), 3, api.ErrDatagram},
		{spoilt(inv(2), 6), 3, api.ErrDatagram},
		{spoilt(edit(2, 1, 0, b1()), 5), 15, api.ErrDatagram},
		{spoilt(rec(1, 2, 2, b1()), 9), 15, api.ErrDatagram},
	} {
		wantRefused(t, x, api.Datagram{To: 1, Bytes: c.b}, c.at, c.want)
		wantRefused(t, x, api.Datagram{To: 1, Bytes: c.b, Spoilt: true}, c.at, c.want)
		wantRefused(t, x, api.Datagram{From: 2, Bytes: c.b}, c.at, c.want)
	}
}

// TestWays: each kind of message goes one way alone, between the server and its own client.
func TestWays(t *testing.T) {
	for _, client := range []int{1, 2, 3} {
		for _, m := range allKinds(client) {
			for other := 1; other <= 3; other++ {
				x := newTap(t, 3)
				right := other == client
				if toServer(m) && right {
					mustTake(t, x, api.Datagram{From: other, Bytes: bytesOf(t, m)})
					x = newTap(t, 3)
				} else {
					wantAstray(t, x, m, other, 0, api.ErrProof)
				}
				if !toServer(m) && right {
					mustTake(t, x, api.Datagram{To: other, Bytes: bytesOf(t, m)})
				} else {
					wantAstray(t, x, m, 0, other, api.ErrProof)
				}
			}
		}
	}
}

// TestAstrayAndTwo: that a message does not go that way is told ahead of what speaks against it.
func TestAstrayAndTwo(t *testing.T) {
	x := behindExample3(t)
	for _, m := range []api.Msg{rec(1, 1, 1, b1()), edit(1, 1, 0, ins(0, 'z', 1, 1))} {
		wantAstray(t, x, m, 0, 2, api.ErrProof)
		wantAstray(t, x, m, 2, 0, api.ErrProof)
		wantNo(t, x, m, 1, api.ErrTwo)
	}
}

// TestSpoiltIsNotLookedAt: the bytes alone tell.
func TestSpoiltIsNotLookedAt(t *testing.T) {
	for _, m := range allKinds(2) {
		x, y := newTap(t, 2), newTap(t, 2)
		g := sent(t, m)
		mustTake(t, x, g)
		g.Spoilt = true
		mustTake(t, y, g)
		if !same(wholeSight(x), wholeSight(y)) {
			t.Fatalf("P28.2: %+v proves %s, and with Spoilt %s", m, word(wholeSight(x)), word(wholeSight(y)))
		}
	}
}

// TestRecordTwice: a record is known with its Op; one that differs from it in any field is refused.
func TestRecordTwice(t *testing.T) {
	known := del(3, 5, 7)
	x := tapOf(t, 2, rec(1, 1, 9, known))
	for _, op := range []api.Op{nop(5, 7), ins(3, 'a', 5, 7), del(2, 5, 7), del(4, 5, 7), del(3, 4, 7), del(3, 5, 8), del(3, 7, 5), ins(0, ' ', 64, 64)} {
		wantNo(t, x, rec(1, 1, 9, op), 9, api.ErrTwo)
		wantNo(t, x, in(9, rec(2, 4096, 9, op)), 9, api.ErrTwo)
	}
	wantNoNews(t, x, rec(1, 1, 9, known))
	wantNoNews(t, x, rec(2, 4096, 9, known))
	y := tapOf(t, 2, rec(1, 1, 9, ins(3, 'a', 5, 7)))
	wantNo(t, y, rec(1, 1, 9, ins(3, 'b', 5, 7)), 9, api.ErrTwo)
	wantKnown(t, y, 9)
}

// TestEditInTwoRecords: an edit is in the log once, whatever it came to.
func TestEditInTwoRecords(t *testing.T) {
	for _, known := range []api.Op{ins(0, 'a', 1, 1), del(0, 1, 1), nop(1, 1)} {
		x := tapOf(t, 2, rec(1, 1, 100, known))
		for _, rev := range []int{1, 99, 101, 4096} {
			for _, op := range []api.Op{ins(0, 'a', 1, 1), del(0, 1, 1), nop(1, 1), ins(7, 'q', 1, 1)} {
				wantNo(t, x, rec(1, 1, rev, op), rev, api.ErrTwo)
			}
		}
		mustSee(t, x, rec(1, 1, 101, ins(0, 'a', 1, 2)))
		mustSee(t, x, rec(1, 1, 99, ins(0, 'a', 2, 1)))
		wantKnown(t, x, 99, 100, 101)
	}
}

// TestEditTwice: an edit is known with its Tag and Op; one that differs from it in any field is refused.
func TestEditTwice(t *testing.T) {
	x := tapOf(t, 2, edit(1, 1, 3, ins(5, 'a', 1, 7)))
	for _, m := range []api.Msg{
		edit(1, 1, 2, ins(5, 'a', 1, 7)), edit(1, 1, 4, ins(5, 'a', 1, 7)), edit(1, 1, 4096, ins(5, 'a', 1, 7)),
		edit(1, 1, 3, ins(4, 'a', 1, 7)), edit(1, 1, 3, ins(6, 'a', 1, 7)), edit(1, 1, 3, ins(5, 'b', 1, 7)),
		edit(1, 1, 3, del(5, 1, 7)), edit(1, 1, 3, nop(1, 7)), in(200, edit(1, 9, 0, ins(5, 'a', 1, 7))),
	} {
		wantNo(t, x, m, 7, api.ErrTwo)
	}
	for _, num := range []int{1, 2, 8, 4096} {
		m := edit(1, num, 3, ins(5, 'a', 1, 7))
		m.Ack = num
		wantNoNews(t, x, m)
	}
	mustSee(t, x, edit(2, 1, 2, ins(5, 'a', 2, 7)))
	mustSee(t, x, edit(1, 1, 2, ins(5, 'a', 1, 6)))
	wantMade(t, x, 1, made(2, ins(5, 'a', 1, 6)), made(3, ins(5, 'a', 1, 7)))
	wantMade(t, x, 2, made(2, ins(5, 'a', 2, 7)))
}

// TestGoTogether: each kind of record beside each kind of edit, whichever is seen first.
func TestGoTogether(t *testing.T) {
	for _, c := range []struct {
		done, own api.Op
		together  bool
	}{
		{ins(0, 'a', 1, 4), ins(0, 'a', 1, 4), true},
		{ins(9, 'a', 1, 4), ins(0, 'a', 1, 4), true},
		{ins(0, 'a', 1, 4), ins(4095, 'a', 1, 4), true},
		{ins(0, 'b', 1, 4), ins(0, 'a', 1, 4), false},
		{del(0, 1, 4), ins(0, 'a', 1, 4), false},
		{nop(1, 4), ins(0, 'a', 1, 4), false},
		{del(0, 1, 4), del(0, 1, 4), true},
		{del(5, 1, 4), del(6, 1, 4), true},
		{nop(1, 4), del(6, 1, 4), true},
		{ins(6, 'a', 1, 4), del(6, 1, 4), false},
		{nop(1, 4), nop(1, 4), true},
		{del(0, 1, 4), nop(1, 4), false},
		{ins(0, 'a', 1, 4), nop(1, 4), false},
	} {
		record, own := rec(2, 1, 30, c.done), edit(1, 1, 2, c.own)
		if !c.together {
			wantNo(t, tapOf(t, 2, own), record, 30, api.ErrTwo)
			wantNo(t, tapOf(t, 2, record), own, 4, api.ErrTwo)
			continue
		}
		for _, x := range []*tap.Tap{tapOf(t, 2, own, record), tapOf(t, 2, record, own)} {
			wantKnown(t, x, 30)
			wantMade(t, x, 1, made(2, c.own))
			wantWaiting(t, x, 1)
		}
	}
}

// TestTwoInEachWay: a datagram that is refused for more than one reason, and ones that only look as if they were.
func TestTwoInEachWay(t *testing.T) {
	x := tapOf(t, 3, rec(1, 1, 5, ins(0, 'a', 1, 1)), rec(1, 2, 6, ins(0, 'b', 2, 1)), edit(3, 1, 0, ins(0, 'c', 3, 1)))
	wantNo(t, x, rec(3, 1, 5, ins(0, 'b', 2, 1)), 5, api.ErrTwo)  // record 5 is another's, and that edit is record 6
	wantNo(t, x, rec(3, 1, 6, del(0, 3, 1)), 6, api.ErrTwo)       // record 6 is another's, and that edit is an Insert
	wantNo(t, x, rec(3, 1, 7, ins(0, 'd', 3, 1)), 7, api.ErrTwo)  // that edit inserts another character
	wantNo(t, x, edit(1, 1, 4, ins(0, 'b', 1, 1)), 1, api.ErrTwo) // the record inserts another character
	mustSee(t, x, edit(1, 1, 4, ins(3, 'a', 1, 1)))
	mustSee(t, x, rec(3, 1, 7, ins(9, 'c', 3, 1)))
	mustSee(t, x, rec(3, 1, 8, ins(0, 'd', 3, 2)))
	mustSee(t, x, rec(3, 1, 4, ins(0, 'a', 2, 2)))
	wantKnown(t, x, 4, 5, 6, 7, 8)
}

// TestEpoch: each kind of datagram that is taken proves its epoch; one that is refused does not.
func TestEpoch(t *testing.T) {
	for _, m := range allKinds(2) {
		x := newTap(t, 2)
		for _, c := range []struct{ epoch, want int }{{4, 4}, {3, 4}, {1, 4}, {5, 5}, {255, 255}, {254, 255}, {5, 255}} {
			mustSee(t, x, in(c.epoch, m))
			wantEpoch(t, x, c.want)
		}
	}
	x := behindExample3(t)
	wantNo(t, x, in(2, rec(1, 1, 1, b1())), 1, api.ErrTwo)
	wantNo(t, x, in(2, edit(2, 1, 1, ins(0, 'b', 2, 1))), 1, api.ErrTwo)
	wantAstray(t, x, in(2, beat(1)), 0, 2, api.ErrProof)
	wantAstray(t, x, in(2, beat(1)), 0, 3, api.ErrAddress)
	wantEpoch(t, x, 1)
	mustSee(t, x, in(2, rec(1, 1, 1, a1()))) // proves nothing new of the log, but the epoch
	wantEpoch(t, x, 2)
	mustSee(t, x, in(3, edit(1, 2, 1, del(0, 1, 2))))
	wantEpoch(t, x, 3)
}

// TestProvesNothing: Hello, Nod, Invite and Beat prove their epoch alone, whatever else they say.
func TestProvesNothing(t *testing.T) {
	x := behindExample3(t)
	h, n, b := hello(1), nod(2), beat(2)
	h.Have, h.First, n.Ack, b.Ack = 4096, 65, 4096, 4096
	for _, m := range []api.Msg{h, n, b, inv(1)} {
		wantNoNews(t, x, m)
	}
}

func TestKnown(t *testing.T) {
	x := newTap(t, 1)
	for i, rev := range []int{300, 4096, 7, 1000, 2, 8, 256} {
		mustSee(t, x, rec(1, 1, rev, ins(0, 'a', 2, i+1)))
	}
	wantKnown(t, x, 2, 7, 8, 256, 300, 1000, 4096)
	wantRecords(t, x, "")
}

// TestRecords: the beginning ends where a record is not known, or cannot stand; what comes behind that is known all the same.
func TestRecords(t *testing.T) {
	for _, c := range []struct {
		ops  []api.Op // the zero Op: not known
		n    int
		text string
	}{
		{nil, 0, ""},
		{[]api.Op{a1()}, 1, "a"},
		{[]api.Op{{}, a1()}, 0, ""},
		{[]api.Op{a1(), {}, b1()}, 1, "a"},
		{[]api.Op{a1(), b1(), {}}, 2, "ab"},
		{[]api.Op{a1(), b1(), {}, ins(0, 'c', 1, 2)}, 2, "ab"},
		{[]api.Op{a1(), b1(), ins(0, 'c', 1, 2), ins(3, 'd', 1, 3)}, 4, "cabd"},
		// A Seq that is not the next one.
		{[]api.Op{ins(0, 'a', 1, 2)}, 0, ""},
		{[]api.Op{a1(), ins(0, 'b', 1, 3), ins(0, 'c', 1, 2)}, 1, "a"},
		{[]api.Op{a1(), ins(0, 'b', 2, 2), ins(0, 'c', 2, 1)}, 1, "a"},
		{[]api.Op{a1(), b1(), nop(2, 2), nop(1, 2), nop(1, 4), nop(1, 3)}, 4, "ab"},
		{[]api.Op{ins(0, 'a', 64, 1), ins(0, 'b', 64, 2), del(1, 64, 3), ins(0, 'c', 64, 5)}, 3, "b"},
		// A place that is not there.
		{[]api.Op{ins(1, 'a', 1, 1)}, 0, ""},
		{[]api.Op{del(0, 1, 1), ins(0, 'a', 1, 2)}, 0, ""},
		{[]api.Op{a1(), ins(2, 'b', 2, 1)}, 1, "a"},
		{[]api.Op{a1(), del(1, 2, 1), ins(0, 'c', 1, 2)}, 1, "a"},
		{[]api.Op{a1(), del(0, 2, 1), del(0, 1, 2)}, 2, ""},
		{[]api.Op{a1(), del(0, 2, 1), ins(1, 'b', 1, 2)}, 2, ""},
		{[]api.Op{a1(), del(0, 2, 1), ins(0, 'b', 1, 2), ins(1, 'c', 3, 1)}, 4, "bc"},
		// Nops stand anywhere.
		{[]api.Op{nop(3, 1), nop(2, 1), a1(), nop(3, 2)}, 4, "a"},
	} {
		x, y := newTap(t, 1), newTap(t, 1)
		var known []int
		for i, op := range c.ops {
			if op == (api.Op{}) {
				continue
			}
			known = append(known, i+1)
			mustSee(t, x, rec(1, 1, i+1, op))
		}
		for i := range known {
			rev := known[len(known)-1-i]
			mustSee(t, y, rec(1, 1, rev, c.ops[rev-1]))
		}
		for _, w := range []*tap.Tap{x, y} {
			wantKnown(t, w, known...)
			wantRecords(t, w, c.text, c.ops[:c.n]...)
		}
	}
}

// TestGapIsFilled: the beginning grows as far as it can once the record that was missing comes.
func TestGapIsFilled(t *testing.T) {
	x := tapOf(t, 1, rec(1, 1, 4, ins(2, 'd', 1, 3)), rec(1, 1, 2, ins(1, 'b', 1, 2)), rec(1, 1, 6, nop(3, 1)))
	wantRecords(t, x, "")
	mustSee(t, x, rec(1, 1, 1, a1()))
	wantRecords(t, x, "ab", a1(), ins(1, 'b', 1, 2))
	mustSee(t, x, rec(1, 1, 3, del(0, 2, 1)))
	wantRecords(t, x, "b", a1(), ins(1, 'b', 1, 2), del(0, 2, 1)) // record 4's place is not there
	wantKnown(t, x, 1, 2, 3, 4, 6)
}

// TestMade: the edits by their Seqs, with gaps or without; those of which a record is known do not wait.
func TestMade(t *testing.T) {
	x := newTap(t, 3)
	first, third, ninth, last := made(0, a1()), made(2, del(4, 1, 3)), made(9, ins(7, 'z', 1, 9)), made(4096, del(0, 1, 64))
	for _, e := range []api.Edit{ninth, first, last, third} {
		mustSee(t, x, edit(1, 1, e.Tag, e.Op))
	}
	wantMade(t, x, 1, first, third, ninth, last)
	wantWaiting(t, x, 1, first, third, ninth, last)
	mustSee(t, x, rec(3, 1, 80, nop(1, 3)))
	wantWaiting(t, x, 1, first, ninth, last)
	mustSee(t, x, rec(3, 1, 90, nop(1, 64)))
	mustSee(t, x, rec(3, 1, 1, ins(0, 'q', 3, 1))) // another's first edit
	wantWaiting(t, x, 1, first, ninth)
	mustSee(t, x, rec(3, 1, 7, a1()))
	wantWaiting(t, x, 1, ninth)
	mustSee(t, x, rec(3, 1, 8, ins(0, 'z', 1, 9)))
	wantWaiting(t, x, 1)
	wantMade(t, x, 1, first, third, ninth, last)
	for _, c := range append(far(), 0, 2, 3) {
		wantMade(t, x, c)
		wantWaiting(t, x, c)
	}
}

// TestRecordAlone: a record proves nothing of how its edit was made.
func TestRecordAlone(t *testing.T) {
	x := tapOf(t, 2, rec(2, 1, 1, a1()))
	wantMade(t, x, 1)
	wantWaiting(t, x, 1)
	mustSee(t, x, edit(1, 1, 5, ins(9, 'a', 1, 1)))
	wantMade(t, x, 1, made(5, ins(9, 'a', 1, 1)))
	wantWaiting(t, x, 1)
}

// TestMakerFromElsewhere: a record's maker need not be one of the tap's clients.
func TestMakerFromElsewhere(t *testing.T) {
	x := tapOf(t, 1, rec(1, 1, 1, ins(0, 'a', 64, 1)), rec(1, 1, 2, ins(1, 'b', 2, 1)), rec(1, 1, 3, del(0, 64, 2)))
	wantRecords(t, x, "b", ins(0, 'a', 64, 1), ins(1, 'b', 2, 1), del(0, 64, 2))
	wantAstray(t, x, edit(2, 1, 0, ins(1, 'b', 2, 1)), 2, 0, api.ErrAddress)
	for _, c := range []int{1, 2, 64} {
		wantMade(t, x, c)
		wantWaiting(t, x, c)
	}
}

// TestTapsShareNothing: what one saw, another does not know.
func TestTapsShareNothing(t *testing.T) {
	x, y := newTap(t, 2), newTap(t, 2)
	mustSee(t, x, in(5, rec(1, 1, 1, a1())))
	mustSee(t, x, edit(1, 1, 0, a1()))
	wantNothing(t, y)
	mustSee(t, y, rec(1, 1, 1, b1()))
	mustSee(t, y, edit(1, 1, 7, del(3, 1, 1)))
	wantEpoch(t, y, 1)
	wantRecords(t, x, "a", a1())
	wantMade(t, x, 1, made(0, a1()))
	wantRecords(t, y, "")
	wantMade(t, y, 1, made(7, del(3, 1, 1)))
}
