package client_test

import (
	"bytes"
	"math/rand/v2"
	"slices"
	"strconv"
	"testing"

	"jotter/api"
	"jotter/client"
	"jotter/doc"
	"jotter/space"
	"jotter/wire"
)

// host is the plainest server that some clients can talk to: it has a log, takes edits in their order alone, and tells records.
type host struct {
	epoch int
	log   []api.Op // in their done forms
	desks []*desk
}

// desk is what the host knows of one client.
type desk struct {
	unseen *space.Space // others' records, by their numbers
	seqs   int          // edits of this client in the log
	open   bool
	base   int
	first  int
	cum    int // edits' numbers that came in this epoch
	acked  int // records' numbers that the client has
	sent   int
}

func newHost(n int) *host {
	h := &host{epoch: 1}
	for range n {
		h.desks = append(h.desks, &desk{unseen: space.New(true)})
	}
	return h
}

// restart begins a new epoch: the log stays, all sessions end.
func (h *host) restart() {
	h.epoch++
	for i, d := range h.desks {
		h.desks[i] = &desk{unseen: d.unseen, seqs: d.seqs}
	}
}

// take takes a message of a client's, if it is one of this epoch.
func (h *host) take(t *testing.T, m api.Msg) {
	t.Helper()
	d := h.desks[m.Client-1]
	switch {
	case m.Epoch != h.epoch:
	case m.Kind == api.MHello && !d.open:
		d.open, d.base, d.first = true, m.Have, m.First
	case m.Kind == api.MHello && (m.Have != d.base || m.First != d.first):
		t.Fatalf("P11.4: client %d says two Hellos in one epoch: %+v", m.Client, m)
	case d.open && (m.Kind == api.MEdit || m.Kind == api.MNod):
		if m.Ack > d.sent {
			t.Fatalf("P11.4: client %d acknowledges what was never sent: %+v", m.Client, m)
		}
		d.acked = max(d.acked, m.Ack)
		if m.Kind == api.MEdit && m.Num == d.cum+1 {
			d.cum++
			h.edit(t, d, m)
		}
	}
}

// edit puts an edit into the log, unless it is there.
func (h *host) edit(t *testing.T, d *desk, m api.Msg) {
	t.Helper()
	if m.Op.Seq != d.first+m.Num-1 {
		t.Fatalf("P11.7: the number %d of client %d is not the Seq's %d", m.Num, m.Client, m.Op.Seq)
	}
	if m.Op.Seq <= d.seqs {
		return
	}
	d.seqs++
	d.unseen.DropTo(m.Tag)
	op, e := d.unseen.Cross(m.Op)
	if e != api.OK || m.Op.Seq != d.seqs {
		t.Fatalf("P11.4: client %d's edit %s: error %d, want the Seq %d", m.Client, word(m.Op), e, d.seqs)
	}
	h.log = append(h.log, op)
	for _, other := range h.desks {
		if other != d {
			other.unseen.Keep(len(h.log), op)
		}
	}
}

// tick gives what the host says to a client.
func (h *host) tick(id int) []api.Msg {
	d := h.desks[id-1]
	if !d.open {
		return []api.Msg{{Kind: api.MInvite, Epoch: h.epoch, Client: id}}
	}
	var said []api.Msg
	for num := d.acked + 1; num <= d.acked+8 && d.base+num <= len(h.log); num++ {
		said = append(said, api.Msg{Kind: api.MRecord, Epoch: h.epoch, Client: id, Num: num, Ack: d.cum, Rev: d.base + num, Op: h.log[d.base+num-1]})
		d.sent = max(d.sent, num)
	}
	if said == nil {
		said = append(said, api.Msg{Kind: api.MBeat, Epoch: h.epoch, Client: id, Ack: d.cum})
	}
	return said
}

// service is a host and its clients, with the datagrams that are in flight, each way.
type service struct {
	host    *host
	clients []*client.Client
	flight  []parcel
	hellos  map[string][]byte
}

// parcel is a datagram on its way to a client, or (0) to the host.
type parcel struct {
	to int
	b  []byte
}

func newService(t *testing.T, n int) *service {
	t.Helper()
	s := &service{host: newHost(n), hellos: map[string][]byte{}}
	for id := 1; id <= n; id++ {
		s.clients = append(s.clients, newClient(t, id))
	}
	return s
}

// tickClient puts what a client says into flight.
func (s *service) tickClient(t *testing.T, id int) {
	t.Helper()
	for _, b := range s.clients[id-1].Tick() {
		m, err := wire.Decode(b)
		if err != nil || m.Client != id || m.Epoch != s.clients[id-1].View().Epoch {
			t.Fatalf("P11.4: client %d says %+v: %v", id, m, err)
		}
		if m.Kind == api.MHello {
			s.wantSameHello(t, m, b)
		}
		s.flight = append(s.flight, parcel{0, b})
	}
}

// wantSameHello ends the test unless all Hellos of one epoch are the same bytes.
func (s *service) wantSameHello(t *testing.T, m api.Msg, b []byte) {
	t.Helper()
	key := strconv.Itoa(m.Client) + "/" + strconv.Itoa(m.Epoch)
	if before, ok := s.hellos[key]; ok && !bytes.Equal(before, b) {
		t.Fatalf("P11.4: the Hellos of client %d in epoch %d: %x and %x", m.Client, m.Epoch, before, b)
	}
	s.hellos[key] = b
}

func (s *service) tickHost(t *testing.T, id int) {
	t.Helper()
	for _, m := range s.host.tick(id) {
		s.flight = append(s.flight, parcel{id, bytesOf(t, m)})
	}
}

// deliver brings a datagram that nobody has changed.
func (s *service) deliver(t *testing.T, p parcel) {
	t.Helper()
	if p.to == 0 {
		if m, err := wire.Decode(p.b); err == nil {
			s.host.take(t, m)
		}
		return
	}
	c := s.clients[p.to-1]
	before := see(c)
	err := c.Receive(p.b)
	if err != nil && api.Code(err) != api.ErrStale {
		t.Fatalf("P11.5: client %d refuses what an honest server said, %x: %v; %s", p.to, p.b, err, before)
	}
	s.wantRight(t, c)
	s.wantGrown(t, c, before)
}

// wantRight ends the test unless a client's text is that of its first records with its forms applied.
func (s *service) wantRight(t *testing.T, c *client.Client) {
	t.Helper()
	wantWhole(t, "P11.10", c)
	v := c.View()
	want, _, e := doc.Replay(append(slices.Clone(s.host.log[:v.Have]), c.Forms()...)...)
	if e != api.OK || !doc.Equal(v.Doc, want) {
		t.Fatalf("client %d: Doc %q, its records and forms make %q (error %d)", v.ID, doc.Text(v.Doc), doc.Text(want), e)
	}
}

// wantGrown ends the test if a datagram took a record back, or an edit, or changed how many were made.
func (s *service) wantGrown(t *testing.T, c *client.Client, before seen) {
	t.Helper()
	v := c.View()
	if v.Have < before.view.Have || v.Made != before.view.Made || v.Epoch < before.view.Epoch || len(v.Pending) > len(before.pending) {
		t.Fatalf("P11.9: %s, before %s", see(c), before)
	}
	if v.Have > before.view.Have && !v.Open {
		t.Fatalf("Have changes while the client is not open: %s, before %s", see(c), before)
	}
}

// step lets one thing happen.
func (s *service) step(t *testing.T, r *rand.Rand, loss int) {
	t.Helper()
	id := 1 + r.IntN(len(s.clients))
	c := s.clients[id-1]
	switch k := r.IntN(20); {
	case k < 2:
		n := len(c.Doc())
		if r.IntN(3) > 0 || n == 0 {
			c.Insert(r.IntN(n+1), 'a'+r.IntN(26))
		} else {
			c.Delete(r.IntN(n))
		}
		s.wantRight(t, c)
	case k < 5:
		s.tickClient(t, id)
	case k < 8:
		s.tickHost(t, id)
	case k < 9 && r.IntN(40) == 0 && s.host.epoch < api.MaxEpoch:
		s.host.restart()
	case len(s.flight) > 0:
		s.bring(t, r, loss)
	}
}

// bring does with one datagram in flight what a network may do.
func (s *service) bring(t *testing.T, r *rand.Rand, loss int) {
	t.Helper()
	i := r.IntN(len(s.flight))
	p := s.flight[i]
	switch k := r.IntN(100); {
	case k < loss:
		s.flight = slices.Delete(s.flight, i, i+1)
	case k < 2*loss:
		s.deliver(t, p)
	case k < 3*loss && p.to > 0:
		spoilt := bytes.Clone(p.b)
		spoilt[r.IntN(len(spoilt))] ^= byte(1 + r.IntN(255))
		before := see(s.clients[p.to-1])
		err := s.clients[p.to-1].Receive(spoilt)
		if api.Code(err) != api.ErrDatagram || !see(s.clients[p.to-1]).equal(before) {
			t.Fatalf("P11.5: a flipped datagram: %v", err)
		}
	default:
		s.flight = slices.Delete(s.flight, i, i+1)
		s.deliver(t, p)
	}
}

// settle lets all that was made come everywhere, on a network that loses nothing.
func (s *service) settle(t *testing.T) {
	t.Helper()
	const rounds = 200 // a link goes eight things further in two of them, and no log here is longer than 400
	for n := 0; n < rounds && !s.atRest(); n++ {
		for _, p := range s.flight {
			s.deliver(t, p)
		}
		s.flight = nil
		for i := range s.clients {
			s.tickClient(t, i+1)
		}
		for i := range s.clients {
			s.tickHost(t, i+1)
		}
	}
	want, _, _ := doc.Replay(s.host.log...)
	made := 0
	for _, c := range s.clients {
		v := c.View()
		made += v.Made
		if len(v.Pending) > 0 || v.Have != len(s.host.log) || !doc.Equal(v.Doc, want) {
			t.Fatalf("at rest the log has %d records and the text %q; %s", len(s.host.log), doc.Text(want), see(c))
		}
	}
	if made != len(s.host.log) {
		t.Fatalf("%d edits were made, and %d are in the log", made, len(s.host.log))
	}
}

// atRest tells whether everybody has all.
func (s *service) atRest() bool {
	for _, c := range s.clients {
		if v := c.View(); len(v.Pending) > 0 || v.Have != len(s.host.log) {
			return false
		}
	}
	return true
}

// TestHonestRuns: whatever the network does, and however often the server begins anew, each edit comes to each client once.
func TestHonestRuns(t *testing.T) {
	for seed := range 60 {
		r := dice(seed)
		s := newService(t, 1+seed%5)
		loss := []int{0, 5, 15, 30}[seed%4]
		for range 900 {
			s.step(t, r, loss)
		}
		s.settle(t)
	}
}

// TestAllMakeTheirLastEdit: many clients make all the edits that they may, most of them before they hear of one another.
func TestAllMakeTheirLastEdit(t *testing.T) {
	r, s := dice(1), newService(t, 6)
	for n := range api.MaxEdits {
		for _, c := range s.clients {
			c.Insert(r.IntN(len(c.Doc())+1), 'a'+n%26)
		}
		if n == 40 {
			s.breakOff(t)
		}
	}
	s.settle(t)
	if n := len(s.host.log); n != 6*api.MaxEdits {
		t.Fatalf("%d records, want %d", n, 6*api.MaxEdits)
	}
}

// breakOff goes a few rounds and breaks off in their midst, with a new epoch.
func (s *service) breakOff(t *testing.T) {
	t.Helper()
	for range 4 {
		for i := range s.clients {
			s.tickClient(t, i+1)
			s.tickHost(t, i+1)
		}
		for _, p := range s.flight {
			s.deliver(t, p)
		}
		s.flight = nil
	}
	s.host.restart()
}
