package tap_test

import (
	"math/rand/v2"
	"slices"
	"testing"

	"jotter/api"
	"jotter/doc"
	"jotter/tap"
	"jotter/wire"
)

// model is a tap that keeps nothing but the messages that it took, and goes through all of them whatever it is asked.
type model struct {
	clients int
	taken   []api.Msg
}

// refusal is an error's number with its place.
type refusal struct {
	at  int
	err api.Errno
}

func (m *model) see(g api.Datagram) refusal {
	low, high := min(g.From, g.To), max(g.From, g.To)
	if low != 0 || high < 1 || high > m.clients {
		return refusal{0, api.ErrAddress}
	}
	msg, err := wire.Decode(g.Bytes)
	if err != nil {
		return refusal{api.Place(err), api.Code(err)}
	}
	if msg.Client != high || toServer(msg) != (g.To == 0) {
		return refusal{0, api.ErrProof}
	}
	for _, old := range m.taken {
		if !agree(old, msg) && msg.Kind == api.MRecord {
			return refusal{msg.Rev, api.ErrTwo}
		}
		if !agree(old, msg) {
			return refusal{msg.Op.Seq, api.ErrTwo}
		}
	}
	m.taken = append(m.taken, msg)
	return refusal{}
}

// agree tells whether two messages can both be true.
func agree(a, b api.Msg) bool {
	sameEdit := a.Op.Client == b.Op.Client && a.Op.Seq == b.Op.Seq
	switch {
	case a.Kind == api.MRecord && b.Kind == api.MRecord:
		if a.Rev == b.Rev {
			return a.Op == b.Op
		}
		return !sameEdit
	case a.Kind == api.MEdit && b.Kind == api.MEdit:
		return !sameEdit || a.Tag == b.Tag && a.Op == b.Op
	case a.Kind == api.MRecord && b.Kind == api.MEdit:
		return !sameEdit || a.Op.Kind == b.Op.Kind && a.Op.Ch == b.Op.Ch || a.Op.Kind == api.Nop && b.Op.Kind == api.Delete
	case a.Kind == api.MEdit && b.Kind == api.MRecord:
		return agree(b, a)
	}
	return true
}

func (m *model) Epoch() int {
	epoch := 0
	for _, x := range m.taken {
		epoch = max(epoch, x.Epoch)
	}
	return epoch
}

// record gives the record of that number, if it is known.
func (m *model) record(rev int) (api.Op, bool) {
	for _, x := range m.taken {
		if x.Kind == api.MRecord && x.Rev == rev {
			return x.Op, true
		}
	}
	return api.Op{}, false
}

func (m *model) Known() []int {
	var revs []int
	for rev := 1; rev <= api.MaxLog; rev++ {
		if _, known := m.record(rev); known {
			revs = append(revs, rev)
		}
	}
	return revs
}

func (m *model) Records() []api.Op {
	var ops []api.Op
	var text []api.Elem
	for {
		op, known := m.record(len(ops) + 1)
		count := 0
		for _, x := range ops {
			if x.Client == op.Client {
				count++
			}
		}
		next, e := doc.Apply(text, op)
		if !known || op.Seq != count+1 || e != api.OK {
			return ops
		}
		ops, text = append(ops, op), next
	}
}

func (m *model) Doc() []api.Elem {
	var text []api.Elem
	for _, op := range m.Records() {
		text, _ = doc.Apply(text, op)
	}
	return text
}

func (m *model) Made(client int) []api.Edit {
	var list []api.Edit
	for seq := 1; seq <= api.MaxEdits; seq++ {
		for _, x := range m.taken {
			if x.Kind == api.MEdit && x.Op.Client == client && x.Op.Seq == seq {
				list = append(list, api.Edit{Tag: x.Tag, Op: x.Op})
				break
			}
		}
	}
	return list
}

func (m *model) Waiting(client int) []api.Edit {
	return slices.DeleteFunc(m.Made(client), func(e api.Edit) bool {
		return slices.ContainsFunc(m.taken, func(x api.Msg) bool {
			return x.Kind == api.MRecord && x.Op.Client == client && x.Op.Seq == e.Op.Seq
		})
	})
}

// pair is a tap with its model beside it.
type pair struct {
	x *tap.Tap
	m *model
}

func newPair(t *testing.T, clients int) pair {
	t.Helper()
	return pair{newTap(t, clients), &model{clients: clients}}
}

// see ends the test unless the tap answers what the model does.
func (p pair) see(t *testing.T, g api.Datagram) {
	t.Helper()
	err, want := p.x.See(g), p.m.see(g)
	if want.err == api.OK && err != nil || want.err != api.OK && !isFault(err, want.at, want.err) {
		t.Fatalf("P28.2: behind %s: See(%+v): %v, want %d at %d", word(p.m.taken), g, err, want.err, want.at)
	}
}

// check ends the test unless the tap knows what the model does.
func (p pair) check(t *testing.T, clients ...int) {
	t.Helper()
	if got, want := sightOf(p.x, clients...), sightOf(p.m, clients...); !same(got, want) {
		t.Fatalf("P28.3 to P28.6: behind %s: %s\nwant %s", word(p.m.taken), word(got), word(want))
	}
}

// fewMessages are some that go together and some that do not.
func fewMessages() []api.Msg {
	return []api.Msg{
		rec(1, 1, 1, ins(0, 'a', 1, 1)), rec(2, 1, 1, ins(0, 'b', 1, 1)), rec(1, 1, 1, nop(1, 1)), rec(1, 1, 1, ins(0, 'a', 2, 1)),
		rec(1, 1, 2, ins(0, 'a', 1, 1)), in(2, rec(1, 1, 2, ins(1, 'b', 2, 1))), rec(1, 1, 2, del(0, 2, 1)), rec(1, 1, 2, nop(1, 2)),
		in(3, edit(1, 1, 0, ins(0, 'a', 1, 1))), edit(1, 1, 1, ins(0, 'a', 1, 1)), edit(1, 1, 0, del(0, 1, 1)), edit(1, 1, 0, nop(1, 1)),
		in(2, edit(1, 2, 1, del(0, 1, 2))), edit(1, 2, 1, ins(0, 'a', 1, 2)), edit(2, 1, 1, del(3, 2, 1)), edit(2, 1, 1, ins(0, 'b', 2, 1)),
		in(4, beat(2)),
	}
}

// TestAllShortLists: every list of up to four of few messages, the last of which may be refused.
func TestAllShortLists(t *testing.T) {
	var all []api.Datagram
	for _, m := range fewMessages() {
		all = append(all, sent(t, m))
	}
	var follow func(list []api.Datagram)
	follow = func(list []api.Datagram) {
		p := newPair(t, 2)
		for _, g := range list {
			p.see(t, g)
		}
		p.check(t, 0, 1, 2, 3)
		if len(list) == 4 || len(p.m.taken) < len(list) {
			return
		}
		for _, g := range all {
			follow(append(slices.Clip(list), g))
		}
	}
	follow(nil)
}

// mixedOp gives an operation of few edits.
func mixedOp(r *rand.Rand, clients, seqs int) api.Op {
	client, seq := 1+r.IntN(clients), 1+r.IntN(seqs)
	switch r.IntN(4) {
	case 0:
		return nop(client, seq)
	case 1:
		return del(r.IntN(3), client, seq)
	}
	return ins(r.IntN(3), "ab"[r.IntN(2)], client, seq)
}

// mixedMessage gives a message of any kind, about few edits and records.
func mixedMessage(r *rand.Rand, clients, seqs, revs int) api.Msg {
	client := 1 + r.IntN(clients)
	m := pick(r, allKinds(client)...)
	switch r.IntN(8) {
	case 0:
	case 1, 2, 3:
		op := mixedOp(r, clients, seqs)
		m = edit(op.Client, 1+r.IntN(9), r.IntN(2), op)
	default:
		m = rec(client, 1+r.IntN(9), 1+r.IntN(revs), mixedOp(r, clients+1, seqs))
	}
	return in(1+r.IntN(5), m)
}

// mixedDatagram gives that of a message, now and then harmed, or on another's way.
func mixedDatagram(t *testing.T, r *rand.Rand, m api.Msg) api.Datagram {
	t.Helper()
	g := sent(t, m)
	switch r.IntN(20) {
	case 0:
		g.Bytes[r.IntN(len(g.Bytes))] ^= byte(1 + r.IntN(255))
	case 1:
		g.Bytes = g.Bytes[:r.IntN(len(g.Bytes))]
	case 2:
		g.From, g.To = g.To, g.From
	case 3:
		g.From = r.IntN(5) - 1
	case 4:
		g.To = r.IntN(5) - 1
	}
	g.Spoilt = r.IntN(2) == 0
	return g
}

// TestMixedLists: long lists of messages about few edits, many of which do not go together.
func TestMixedLists(t *testing.T) {
	for seed := range 300 {
		r := dice(seed)
		clients, seqs, revs := 1+r.IntN(4), 1+r.IntN(4), 1+r.IntN(12)
		p := newPair(t, clients)
		for range 1 + r.IntN(60) {
			p.see(t, mixedDatagram(t, r, mixedMessage(r, clients, seqs, revs)))
			if r.IntN(4) == 0 {
				p.check(t, -1, 0, 1, 2, 3, 4, 5, 64)
			}
		}
		p.check(t, -1, 0, 1, 2, 3, 4, 5, 64)
	}
}

// trueLog gives records that can stand, each beside an edit that it may have come from.
func trueLog(r *rand.Rand, clients, count int) ([]api.Op, []api.Edit) {
	var last [api.MaxClients + 1]int
	var ops []api.Op
	var edits []api.Edit
	n := 0
	for len(ops) < count {
		client := 1 + r.IntN(clients)
		if last[client] == api.MaxEdits {
			continue
		}
		last[client]++
		op := ins(r.IntN(n+1), byte(api.LeastCh+r.IntN(95)), client, last[client])
		own := op
		own.Pos = r.IntN(api.MaxDoc)
		if n > 0 && r.IntN(3) == 0 {
			op = del(r.IntN(n), client, last[client])
			own = del(r.IntN(api.MaxDoc), client, last[client])
			if r.IntN(3) == 0 {
				op = nop(client, last[client])
			}
		}
		switch op.Kind {
		case api.Insert:
			n++
		case api.Delete:
			n--
		}
		ops, edits = append(ops, op), append(edits, made(r.IntN(len(ops)+1), own))
	}
	return ops, edits
}

// tidings gives the messages that tell of a log.
func tidings(r *rand.Rand, clients int, ops []api.Op, edits []api.Edit) []api.Msg {
	var list []api.Msg
	for i, op := range ops {
		num := 1 + r.IntN(api.MaxNum)
		list = append(list, in(1+r.IntN(255), rec(1+r.IntN(clients), num, i+1, op)), in(1+r.IntN(255), edit(op.Client, num, edits[i].Tag, edits[i].Op)))
	}
	return list
}

// TestMixedLogs: what is told of a log that can be, some of it not at all, some again and again, some wrong.
func TestMixedLogs(t *testing.T) {
	for seed := range 40 {
		r := dice(1000 + seed)
		clients := 1 + r.IntN(6)
		ops, edits := trueLog(r, clients, 1+r.IntN(60))
		list := tidings(r, clients, ops, edits)
		p := newPair(t, clients)
		for range 3 * len(list) {
			m := pick(r, list...)
			switch r.IntN(12) {
			case 0:
				m.Op.Seq = 1 + r.IntN(api.MaxEdits)
			case 1:
				m.Rev = min(m.Rev, 1) * (1 + r.IntN(len(ops)+5))
			case 2:
				m.Op.Pos = min(m.Op.Kind, 1) * r.IntN(6)
			}
			p.see(t, mixedDatagram(t, r, m))
		}
		p.check(t, 1, 2, 3, 4, 5, 6, 7)
	}
}
