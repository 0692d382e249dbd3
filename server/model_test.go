package server_test

import (
	"math/rand/v2"
	"slices"
	"strings"
	"testing"

	"jotter/api"
	"jotter/book"
	"jotter/disk"
	"jotter/server"
	"jotter/wire"
)

// model is a server told by the chapter's words, without boxes and without a disk: the log's edits as a list, and each client's numbers.
type model struct {
	epoch  int
	edits  []api.Edit
	synced int
	desks  []desk
}

// desk is one client's session, with the edits that came early.
type desk struct {
	api.LinkView
	early map[int]api.Edit
}

func newModel(clients int, epoch int, edits []api.Edit) *model {
	return &model{epoch: epoch, edits: slices.Clone(edits), synced: len(edits), desks: make([]desk, clients)}
}

// done gives all done forms and the text behind the first so many.
func (m *model) done(revs int) ([]api.Op, []api.Elem) {
	ops, text, _ := book.Replay(m.edits[:revs])
	return ops, text
}

// last tells a client's last Seq and tag in the log.
func (m *model) last(who int) (seq, tag int) {
	for _, e := range m.edits {
		if e.Op.Client == who {
			seq, tag = e.Op.Seq, e.Tag
		}
	}
	return seq, tag
}

// fault tells why an edit cannot be the log's next.
func (m *model) fault(e api.Edit) api.Errno {
	_, _, err := book.Replay(append(slices.Clone(m.edits), e))
	return api.Code(err)
}

// ownAmong tells how many of the first so many records are the client's own.
func (m *model) ownAmong(who, revs int) int {
	n := 0
	for _, e := range m.edits[:revs] {
		if e.Op.Client == who {
			n++
		}
	}
	return n
}

// receive takes a message as P13.3 to P13.6 say.
func (m *model) receive(x api.Msg) api.Errno {
	if x.Kind >= api.MInvite {
		return api.ErrStray
	}
	if x.Client > len(m.desks) {
		return api.ErrStranger
	}
	if x.Epoch != m.epoch {
		return api.ErrStale
	}
	d := &m.desks[x.Client-1]
	if x.Kind == api.MHello {
		return m.hello(d, x)
	}
	if !d.Open {
		return api.ErrClosed
	}
	if x.Ack > d.Sent {
		return api.ErrAck
	}
	if x.Kind == api.MEdit {
		if e := m.refused(d, x); e != api.OK {
			return e
		}
	}
	d.Got = max(d.Got, x.Ack)
	if x.Kind == api.MEdit {
		m.take(d, x)
	}
	return api.OK
}

func (m *model) hello(d *desk, x api.Msg) api.Errno {
	if d.Open {
		return api.OK
	}
	if _, tag := m.last(x.Client); x.Have < tag || x.Have > m.synced {
		return api.ErrHave
	}
	if x.First != 1+m.ownAmong(x.Client, x.Have) {
		return api.ErrFirst
	}
	*d = desk{api.LinkView{Open: true, Base: x.Have, From: x.First}, map[int]api.Edit{}}
	return api.OK
}

// refused tells P13.6's errors from the third on.
func (m *model) refused(d *desk, x api.Msg) api.Errno {
	seq, _ := m.last(x.Client)
	switch {
	case x.Op.Seq+1 != d.From+x.Num:
		return api.ErrSeq
	case x.Num-d.Cum > 8:
		return api.ErrFar
	case x.Tag > d.Base+d.Sent:
		return api.ErrSent
	case x.Num == d.Cum+1 && x.Op.Seq > seq:
		return m.fault(api.Edit{Tag: x.Tag, Op: x.Op})
	}
	return api.OK
}

func (m *model) take(d *desk, x api.Msg) {
	if _, held := d.early[x.Num]; held || x.Num <= d.Cum {
		return
	}
	d.early[x.Num] = api.Edit{Tag: x.Tag, Op: x.Op}
	for {
		next, ok := d.early[d.Cum+1]
		if !ok {
			return
		}
		delete(d.early, d.Cum+1)
		seq, _ := m.last(x.Client)
		switch {
		case next.Op.Seq <= seq:
		case m.fault(next) == api.OK:
			m.edits = append(m.edits, next)
		default:
			return
		}
		d.Cum++
	}
}

// tick gives what is said, as P13.2 says.
func (m *model) tick() []api.Msg {
	m.synced = len(m.edits)
	ops, _ := m.done(m.synced)
	var said []api.Msg
	for i := range m.desks {
		d, who := &m.desks[i], i+1
		if !d.Open {
			said = append(said, of(m.epoch, invite(who)))
			continue
		}
		last := min(d.Got+8, m.synced-d.Base)
		for num := d.Got + 1; num <= last; num++ {
			said = append(said, of(m.epoch, record(who, num, d.Cum, d.Base+num, ops[d.Base+num-1])))
		}
		if last == d.Got {
			said = append(said, of(m.epoch, beat(who, d.Cum)))
		}
		d.Sent = max(d.Sent, last)
	}
	return said
}

func (m *model) see() seen {
	v := api.ServerView{Up: true, Epoch: m.epoch, Revs: len(m.edits), Synced: m.synced}
	_, v.Doc = m.done(v.Revs)
	_, v.Told = m.done(v.Synced)
	for _, d := range m.desks {
		v.Links = append(v.Links, d.LinkView)
	}
	return seen{v, m.edits}
}

// pair is a server with its disk, and the model beside it.
type pair struct {
	s *server.Server
	d *disk.Disk
	m *model
}

func newPair(t *testing.T, clients int) *pair {
	t.Helper()
	d := disk.New()
	return &pair{start(t, d, clients), d, newModel(clients, 1, nil)}
}

// receive gives a message to both, and gives the error.
func (p *pair) receive(t *testing.T, x api.Msg) api.Errno {
	t.Helper()
	before := p.m.see()
	want := p.m.receive(x)
	var wantErr error
	if want != api.OK {
		wantErr = api.Wrap(0, want)
	}
	wantError(t, "P13.3 to P13.6: Receive("+msgWord(x)+") of "+before.String(), p.s.Receive(bytesOf(t, x)), wantErr)
	wantSeen(t, "P13.3 to P13.7: behind "+msgWord(x)+" of "+before.String(), see(p.s), p.m.see())
	return want
}

func (p *pair) tick(t *testing.T) {
	t.Helper()
	before := p.m.see()
	wantSaid(t, "P13.2: a tick of "+before.String(), p.s.Tick(), p.m.tick()...)
	wantSeen(t, "P13.2: behind a tick", see(p.s), p.m.see())
}

// crash crashes the disk and starts anew on what is left.
func (p *pair) crash(t *testing.T, r *rand.Rand) {
	t.Helper()
	const size = 17 // an edit's bytes on the disk
	keep := r.IntN(p.d.Size() - p.d.Synced() + 1)
	whole, at, mask := keep, 0, 0
	if keep > 0 && r.IntN(2) == 0 {
		at, mask = r.IntN(keep), 1+r.IntN(255)
		whole = at
	}
	if e := p.d.Crash(keep, at, mask); e != api.OK {
		t.Fatalf("disk.Crash(%d, %d, %d) = %d", keep, at, mask, e)
	}
	s, err := server.Start(p.d, len(p.m.desks))
	kept := p.m.synced + whole/size
	if s == nil || (err == nil) != (keep%size == 0 && mask == 0) {
		t.Fatalf("P13.1: behind a crash that keeps %d bytes: %v, %v", keep, s, err)
	}
	p.s, p.m = s, newModel(len(p.m.desks), p.m.epoch+1, p.m.edits[:kept])
	wantSeen(t, "P13.8: behind a crash", see(p.s), p.m.see())
}

// nearMessage gives a message with each number near what it may be, or just beyond.
func (p *pair) nearMessage(r *rand.Rand) api.Msg {
	who := 1 + r.IntN(len(p.m.desks))
	d := &p.m.desks[who-1]
	var x api.Msg
	switch k := r.IntN(10); {
	case !d.Open && k < 6:
		x = p.nearHello(r, who)
	case k == 0:
		x = p.nearHello(r, who)
	case k < 3:
		x = nod(who, r.IntN(d.Sent+2))
	case k == 3 && r.IntN(4) == 0:
		x = []api.Msg{invite(who), beat(who, 0), record(who, 1, 0, 1, nop(who, 1))}[r.IntN(3)]
	default:
		x = p.nearEdit(r, who)
	}
	if x.Epoch = p.m.epoch; r.IntN(40) == 0 {
		x.Epoch += 1 - 2*r.IntN(2)
		x.Epoch = max(x.Epoch, 1)
	}
	if x.Kind != api.MEdit && r.IntN(40) == 0 {
		x.Client = len(p.m.desks) + 1
	}
	return x
}

func (p *pair) nearHello(r *rand.Rand, who int) api.Msg {
	_, tag := p.m.last(who)
	have := tag + r.IntN(len(p.m.edits)-tag+1)
	if r.IntN(8) == 0 {
		have = r.IntN(len(p.m.edits) + 2)
	}
	first := 1 + p.m.ownAmong(who, min(have, len(p.m.edits)))
	if r.IntN(8) == 0 {
		first = max(1, first-1+r.IntN(3))
	}
	return hello(who, have, first)
}

// nearEdit gives an edit around the next number; most of them are such as can stand.
func (p *pair) nearEdit(r *rand.Rand, who int) api.Msg {
	d := &p.m.desks[who-1]
	_, least := p.m.last(who)
	num := d.Cum + 1
	if r.IntN(2) == 0 {
		num = max(1, d.Cum-1+r.IntN(11))
	}
	most := d.Base + d.Sent
	tag := least + r.IntN(max(1, most-least+1))
	if r.IntN(6) == 0 {
		tag = r.IntN(most + 2)
	}
	seq := max(1, d.From+num-1)
	if r.IntN(20) == 0 {
		seq = max(1, seq-1+r.IntN(3))
	}
	seq = min(seq, api.MaxEdits)
	n := len(p.m.edits)
	op := ins(r.IntN(min(n, 5)+1), 'a'+byte(r.IntN(26)), who, seq)
	switch r.IntN(8) {
	case 0, 1:
		op = del(r.IntN(min(n, 5)+1), who, seq)
	case 2:
		if r.IntN(4) == 0 {
			op = nop(who, seq)
		}
	}
	return edit(num, r.IntN(d.Sent+1+r.IntN(20)/19), min(tag, api.MaxLog), op)
}

// playOne lets one thing happen to both.
func (p *pair) playOne(t *testing.T, r *rand.Rand) api.Errno {
	t.Helper()
	switch k := r.IntN(100); {
	case k < 2 && p.m.epoch < api.MaxEpoch:
		p.crash(t, r)
	case k < 15:
		p.tick(t)
	default:
		return p.receive(t, p.nearMessage(r))
	}
	return api.OK
}

func TestAgainstModel(t *testing.T) {
	heard := map[api.Errno]int{}
	crashes, records := 0, 0
	for seed := range 120 {
		r := dice(seed)
		p := newPair(t, 1+seed%5)
		for range 150 {
			heard[p.playOne(t, r)]++
		}
		p.tick(t)
		crashes += p.m.epoch - 1
		records += len(p.m.edits)
	}
	for _, e := range []api.Errno{api.OK, api.ErrStray, api.ErrStranger, api.ErrStale, api.ErrHave, api.ErrFirst, api.ErrClosed, api.ErrAck, api.ErrSeq, api.ErrFar, api.ErrSent, api.ErrTag, api.ErrNoEdit, api.ErrPlace} {
		if heard[e] < 30 {
			t.Fatalf("the runs tell too little: the error %d came %d times", e, heard[e])
		}
	}
	if crashes < 100 || records < 2000 {
		t.Fatalf("the runs tell too little: %d crashes, %d records", crashes, records)
	}
}

// shortSteps are things that may happen to a server of two, which meet one another in many ways; the zero message is a tick.
func shortSteps() []api.Msg {
	return []api.Msg{
		{},
		hello(1, 0, 1), hello(2, 0, 1), hello(2, 1, 1), hello(2, 2, 2),
		nod(1, 1), nod(2, 2),
		edit(1, 0, 0, ins(0, 'a', 1, 1)), edit(2, 0, 0, ins(1, 'b', 1, 2)), edit(2, 1, 1, del(0, 1, 2)), edit(3, 0, 0, del(2, 1, 3)),
		edit(1, 0, 0, ins(0, 'x', 2, 1)), edit(1, 1, 1, del(0, 2, 1)), edit(2, 1, 1, ins(1, 'y', 2, 2)),
	}
}

// play lets a short step happen to both.
func (p *pair) play(t *testing.T, x api.Msg) {
	t.Helper()
	if x.Kind == 0 {
		p.tick(t)
		return
	}
	p.receive(t, x)
}

// TestShortRuns: all lists of four of these steps, behind client 1's Hello, and a tick at the end.
func TestShortRuns(t *testing.T) {
	const length = 4
	steps := shortSteps()
	count := 1
	for range length {
		count *= len(steps)
	}
	for n := range count {
		p := newPair(t, 2)
		p.receive(t, hello(1, 0, 1))
		for rest, k := n, 0; k < length; k++ {
			p.play(t, steps[rest%len(steps)])
			rest /= len(steps)
		}
		p.tick(t)
	}
}

// TestSameCallsSameAnswers: also if another server is busy in between.
func TestSameCallsSameAnswers(t *testing.T) {
	for seed := range 20 {
		var heard [2]strings.Builder
		for i := range heard {
			r, p := dice(seed), newPair(t, 3)
			busy, rb := newPair(t, 3), dice(seed+1000)
			for range 80 {
				p.playOne(t, r)
				heard[i].WriteString(see(p.s).String() + saidWord(p.s.Tick()) + "\n")
				p.m.tick()
				if i == 1 {
					busy.playOne(t, rb)
				}
			}
		}
		if heard[0].String() != heard[1].String() {
			t.Fatalf("P13.11: the same calls, and other answers: %s\nand %s", brief(heard[0].String()), brief(heard[1].String()))
		}
	}
}

// TestSameBytesSameServer: two servers on disks of the same bytes, synced or not, are told the same things and answer the same.
func TestSameBytesSameServer(t *testing.T) {
	for seed := range 20 {
		r := dice(seed)
		p := newPair(t, 3)
		for range 60 {
			p.playOne(t, r)
		}
		a := start(t, diskOf(t, p.d.Bytes(), p.d.Synced()), 3)
		b := start(t, diskOf(t, p.d.Bytes(), 0), 3)
		q := &pair{a, nil, newModel(3, p.m.epoch+1, p.m.edits)}
		for range 60 {
			x := q.nearMessage(r)
			q.receive(t, x)
			err := b.Receive(bytesOf(t, x))
			if r.IntN(5) == 0 {
				wantSaid(t, "P13.11", b.Tick(), q.said(t)...)
			}
			wantSeen(t, "P13.11: "+msgWord(x)+" "+wordOf(err), see(b), see(a))
		}
	}
}

// said ticks both, and gives what was said.
func (p *pair) said(t *testing.T) []api.Msg {
	t.Helper()
	want := p.m.tick()
	list := p.s.Tick()
	wantSaid(t, "P13.2", list, want...)
	var msgs []api.Msg
	for _, g := range list {
		m, err := wire.Decode(g.Bytes)
		if err != nil {
			t.Fatalf("P13.2: %v", err)
		}
		msgs = append(msgs, m)
	}
	return msgs
}

func wordOf(err error) string {
	if err == nil {
		return "nil"
	}
	return err.Error()
}
