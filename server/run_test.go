package server_test

import (
	"math/rand/v2"
	"testing"

	"jotter/api"
	"jotter/book"
	"jotter/client"
	"jotter/disk"
	"jotter/net"
	"jotter/server"
	"jotter/wire"
)

// service is a server with honest clients, a disk and a network that does as it likes.
type service struct {
	s       *server.Server
	d       *disk.Disk
	clients []*client.Client
	net     *net.Net
	epoch   int
	opened  []api.LinkView // of this epoch's sessions
	witness
}

// witness is what was told up to now.
type witness struct {
	records map[int]api.Op // by their Revs, whoever was told
	covered map[int]int    // by client: the last Seq that an Ack covered
}

func newService(t *testing.T, n int) *service {
	t.Helper()
	v := &service{d: disk.New(), witness: witness{map[int]api.Op{}, map[int]int{}}}
	for id := 1; id <= n; id++ {
		c, _ := client.New(id)
		v.clients = append(v.clients, c)
	}
	v.net, _ = net.New(n)
	v.start(t)
	return v
}

func (v *service) start(t *testing.T) {
	t.Helper()
	s, _ := server.Start(v.d, len(v.clients))
	if v.epoch++; s == nil || s.View().Epoch != v.epoch {
		t.Fatalf("P13.1: start %d gives no server of that epoch", v.epoch)
	}
	v.s, v.opened = s, s.View().Links
	v.wantKept(t, s)
}

// tick ticks the server, and notes what it tells.
func (v *service) tick(t *testing.T) {
	t.Helper()
	for _, g := range v.s.Tick() {
		m, err := wire.Decode(g.Bytes)
		if err != nil || g.From != 0 || g.To != m.Client || m.Epoch != v.epoch {
			t.Fatalf("P13.2: %s: %v", saidWord([]api.Datagram{g}), err)
		}
		v.note(t, m)
		v.net.Send(0, g.To, g.Bytes)
	}
	if v.d.Synced() != v.d.Size() {
		t.Fatalf("P13.2: behind a tick %d of %d bytes are synced", v.d.Synced(), v.d.Size())
	}
	v.wantFirm(t)
}

// note holds a message against all that was told before.
func (v *service) note(t *testing.T, m api.Msg) {
	t.Helper()
	link := v.opened[m.Client-1]
	if link.Open == (m.Kind == api.MInvite) {
		t.Fatalf("P13.2: the session is %s, and told is %s", linkWord(link), msgWord(m))
	}
	if m.Kind == api.MRecord {
		if m.Rev != link.Base+m.Num {
			t.Fatalf("P13.10: %s in the session %s", msgWord(m), linkWord(link))
		}
		if before, ok := v.records[m.Rev]; ok && before != m.Op {
			t.Fatalf("P13.10: the record %d was told as %s, and now as %s", m.Rev, opWord(before), opWord(m.Op))
		}
		v.records[m.Rev] = m.Op
	}
	if m.Kind != api.MInvite {
		v.covered[m.Client] = max(v.covered[m.Client], link.From+m.Ack-1)
	}
}

// wantFirm ends the test unless a server on the synced bytes alone has all that was told.
func (v *service) wantFirm(t *testing.T) {
	t.Helper()
	d, e := disk.From(v.d.Bytes()[:v.d.Synced()])
	if e != api.OK {
		t.Fatalf("disk.From = %d", e)
	}
	if v.epoch < api.MaxEpoch {
		v.wantKept(t, start(t, d, len(v.clients)))
	}
}

// wantKept ends the test unless a server's log has all that was told, each edit once, and each client's in their order.
func (v *service) wantKept(t *testing.T, s *server.Server) {
	t.Helper()
	edits := s.Edits()
	wantOnce(t, edits)
	done, _, err := book.Replay(edits)
	if err != nil {
		t.Fatalf("P13.8: the log is none: %v", err)
	}
	for rev, op := range v.records {
		if rev > len(done) || done[rev-1] != op {
			t.Fatalf("P13.8: the record %d was told as %s; the log has %d records: %s", rev, opWord(op), len(done), words(edits))
		}
	}
	last := map[int]int{}
	for _, e := range edits {
		last[e.Op.Client] = e.Op.Seq
	}
	for who, seq := range v.covered {
		if last[who] < seq {
			t.Fatalf("P13.8: the edit %d of client %d was acknowledged, and the log has %d of it", seq, who, last[who])
		}
	}
}

// wantOnce ends the test unless each client's Seqs in a log are 1, 2, 3 ..
func wantOnce(t *testing.T, edits []api.Edit) {
	t.Helper()
	last := map[int]int{}
	for _, e := range edits {
		if last[e.Op.Client]++; e.Op.Seq != last[e.Op.Client] {
			t.Fatalf("P13.9: in the log client %d's edit %d is its Seq %d: %s", e.Op.Client, last[e.Op.Client], e.Op.Seq, words(edits))
		}
	}
}

// deliver brings a datagram to where it goes. What an honest client said is refused only if it is stale.
func (v *service) deliver(t *testing.T, i int) {
	t.Helper()
	g, _ := v.net.Deliver(i)
	if g.To > 0 {
		v.clients[g.To-1].Receive(g.Bytes)
		return
	}
	before := see(v.s)
	err := v.s.Receive(g.Bytes)
	switch m, _ := wire.Decode(g.Bytes); {
	case g.Spoilt && api.Code(err) != api.ErrDatagram:
		t.Fatalf("P13.3: a flipped datagram: %v", err)
	case !g.Spoilt && m.Epoch != v.epoch && api.Code(err) != api.ErrStale:
		t.Fatalf("P13.3: %s in epoch %d: %v", msgWord(m), v.epoch, err)
	case !g.Spoilt && m.Epoch == v.epoch && err != nil:
		t.Fatalf("P13.3 to P13.6: %s, of an honest client, is refused: %v; %s", msgWord(m), err, before)
	case err != nil:
		wantSeen(t, "P13.3: refused", see(v.s), before)
	case m.Kind == api.MHello && !before.view.Links[m.Client-1].Open:
		v.opened[m.Client-1] = v.s.View().Links[m.Client-1]
	}
}

// crash lets the server and a part of the disk's tail be gone, and starts anew.
func (v *service) crash(t *testing.T, r *rand.Rand) {
	t.Helper()
	v.wantFirm(t)
	keep := r.IntN(v.d.Size() - v.d.Synced() + 1)
	at, mask := 0, 0
	if keep > 0 && r.IntN(2) == 0 {
		at, mask = r.IntN(keep), 1+r.IntN(255)
	}
	v.d.Crash(keep, at, mask)
	v.start(t)
}

// step lets one thing happen.
func (v *service) step(t *testing.T, r *rand.Rand, loss int) {
	t.Helper()
	id := 1 + r.IntN(len(v.clients))
	c := v.clients[id-1]
	switch k := r.IntN(100); {
	case k < 12:
		if n := len(c.Doc()); r.IntN(3) > 0 || n == 0 {
			c.Insert(r.IntN(n+1), 'a'+r.IntN(26))
		} else {
			c.Delete(r.IntN(n))
		}
	case k < 30:
		for _, b := range c.Tick() {
			v.net.Send(id, 0, b)
		}
	case k < 36:
		v.tick(t)
	case k < 37 && v.epoch < 30:
		v.crash(t, r)
	case v.net.Count() > 0:
		v.bring(t, r, loss)
	}
}

// bring does with one datagram in flight what a network may do.
func (v *service) bring(t *testing.T, r *rand.Rand, loss int) {
	t.Helper()
	i := r.IntN(v.net.Count())
	switch k := r.IntN(100); {
	case k < loss:
		v.net.Drop(i)
	case k < 2*loss:
		v.net.Double(i)
	case k < 3*loss:
		v.net.Flip(i, r.IntN(len(v.net.Flight()[i].Bytes)), 1+r.IntN(255))
	default:
		v.deliver(t, i)
	}
}

// settle lets all that was made come everywhere, on a network that loses nothing.
func (v *service) settle(t *testing.T) {
	t.Helper()
	const rounds = 200 // a link goes eight things further in two of them, and no log here is longer than 400
	for n := 0; n < rounds && !v.atRest(); n++ {
		for v.net.Count() > 0 {
			v.deliver(t, 0)
		}
		for i, c := range v.clients {
			for _, b := range c.Tick() {
				v.net.Send(i+1, 0, b)
			}
		}
		v.tick(t)
	}
	server, made := v.s.View(), 0
	for _, c := range v.clients {
		x := c.View()
		made += x.Made
		if len(x.Pending) > 0 || x.Have != server.Revs || textWord(x.Doc) != textWord(server.Doc) {
			t.Fatalf("P13.10: at rest client %d has %d records, %q and %d pending; %s", x.ID, x.Have, plain(x.Doc), len(x.Pending), see(v.s))
		}
	}
	if made != server.Revs || server.Synced != server.Revs || textWord(server.Told) != textWord(server.Doc) {
		t.Fatalf("P13.9: %d edits were made; %s", made, see(v.s))
	}
}

// atRest tells whether everybody has all.
func (v *service) atRest() bool {
	server := v.s.View()
	for _, c := range v.clients {
		if x := c.View(); len(x.Pending) > 0 || x.Have != server.Revs {
			return false
		}
	}
	return server.Synced == server.Revs
}

// TestHonestRuns: whatever the network does, and however often the server crashes, each edit comes into the log once and to everybody.
func TestHonestRuns(t *testing.T) {
	crashes, records := 0, 0
	for seed := range 60 {
		r := dice(seed)
		v := newService(t, 1+seed%5)
		loss := []int{0, 5, 15, 30}[seed%4]
		for range 600 {
			v.step(t, r, loss)
		}
		v.settle(t)
		crashes += v.epoch - 1
		records += v.s.View().Revs
	}
	if crashes < 100 || records < 1500 {
		t.Fatalf("the runs tell too little: %d crashes, %d records", crashes, records)
	}
}

// TestForgedRuns: any messages whatever, also of clients that lie: what is told is kept, once, in order, to all.
func TestForgedRuns(t *testing.T) {
	for seed := range 40 {
		r := dice(seed + 300)
		p := newPair(t, 1+seed%4)
		v := &service{s: p.s, d: p.d, clients: make([]*client.Client, 1+seed%4), epoch: 1, witness: witness{map[int]api.Op{}, map[int]int{}}}
		v.net, _ = net.New(len(v.clients))
		for range 150 {
			switch k := r.IntN(50); {
			case k == 0:
				v.wantFirm(t)
				p.crash(t, r)
				v.s, v.epoch = p.s, v.epoch+1
				v.wantKept(t, v.s)
			case k < 8:
				v.opened = v.s.View().Links
				v.tick(t)
				p.m.tick()
			default:
				p.receive(t, p.nearMessage(r))
				wantOnce(t, v.s.Edits())
			}
		}
		if seed > 3 && len(v.records) == 0 {
			t.Fatalf("the run tells nothing")
		}
	}
}
