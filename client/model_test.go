package client_test

import (
	"math/rand/v2"
	"slices"
	"strconv"
	"strings"
	"testing"

	"jotter/api"
	"jotter/client"
	"jotter/wire"
)

// model is a client told in the plainest way: all that ever happened to its text, in order; text and forms are told anew out of it at each asking.
type model struct {
	id      int
	story   []happening
	epoch   int
	open    bool
	base    int
	numbers []api.Edit // of the outbox, from number 1 on
	acked   int
	sent    int
	held    map[int]api.Op
	cum     int
}

// happening is an edit that was made, or (taken) a record that was taken in.
type happening struct {
	edit  api.Edit
	taken bool
}

func newModel(id int) *model { return &model{id: id, held: map[int]api.Op{}} }

// past gives a behind b, by layer 5's rules told anew.
func past(a, b api.Op, aFirst bool) api.Op {
	switch {
	case a.Kind == api.Nop || b.Kind == api.Nop || b.Pos > a.Pos:
		return a
	case b.Kind == api.Insert && b.Pos == a.Pos && a.Kind == api.Insert && aFirst:
		return a
	case b.Kind == api.Insert:
		a.Pos++
	case b.Pos < a.Pos:
		a.Pos--
	case a.Kind == api.Delete:
		return nop(a.Client, a.Seq)
	}
	return a
}

// through gives an operation that comes first behind a line, and the line behind it.
func through(op api.Op, line []api.Op) (api.Op, []api.Op) {
	line = slices.Clone(line)
	for i, own := range line {
		line[i], op = past(own, op, false), past(op, own, true)
	}
	return op, line
}

func (m *model) made() int { return m.count(false) }

func (m *model) have() int { return m.count(true) }

func (m *model) count(taken bool) int {
	n := 0
	for _, h := range m.story {
		if h.taken == taken {
			n++
		}
	}
	return n
}

// told gives the Seq of the last record of a maker, 0 if there is none.
func (m *model) told(who int) int {
	seq := 0
	for _, h := range m.story {
		if h.taken && h.edit.Op.Client == who {
			seq = h.edit.Op.Seq
		}
	}
	return seq
}

func (m *model) pending() []api.Edit {
	var list []api.Edit
	told := m.told(m.id)
	for _, h := range m.story {
		if !h.taken && h.edit.Op.Seq > told {
			list = append(list, h.edit)
		}
	}
	return list
}

func (m *model) forms() []api.Op {
	var line []api.Op
	for _, h := range m.story {
		switch op := h.edit.Op; {
		case !h.taken:
			line = append(line, op)
		case op.Client == m.id:
			line = line[1:]
		default:
			_, line = through(op, line)
		}
	}
	return line
}

// text gives the text of the records with the forms applied: what the chapter says that Doc is.
func (m *model) text() []api.Elem {
	var line []api.Op
	for _, h := range m.story {
		if h.taken {
			line = append(line, h.edit.Op)
		}
	}
	var text []api.Elem
	for _, op := range append(line, m.forms()...) {
		switch op.Kind {
		case api.Insert:
			text = slices.Insert(text, op.Pos, api.Elem{Ch: op.Ch, Client: op.Client, Seq: op.Seq})
		case api.Delete:
			text = slices.Delete(text, op.Pos, op.Pos+1)
		}
	}
	return text
}

func (m *model) edit(kind, pos, ch int) (api.Edit, api.Errno) {
	end := len(m.text())
	switch {
	case kind == api.Insert && (ch < 32 || ch > 126):
		return api.Edit{}, api.ErrCh
	case pos < 0 || pos > end || kind == api.Delete && pos == end:
		return api.Edit{}, api.ErrPos
	case m.made() == 64:
		return api.Edit{}, api.ErrQuota
	}
	x := api.Edit{Tag: m.have(), Op: api.Op{Kind: kind, Pos: pos, Client: m.id, Seq: m.made() + 1}}
	if kind == api.Insert {
		x.Op.Ch = byte(ch)
	}
	m.story = append(m.story, happening{edit: x})
	if m.epoch > 0 {
		m.numbers = append(m.numbers, x)
	}
	return x, api.OK
}

func (m *model) tick() []api.Msg {
	if m.epoch == 0 {
		return nil
	}
	if !m.open {
		return []api.Msg{{Kind: api.MHello, Epoch: m.epoch, Client: m.id, Have: m.have(), First: m.told(m.id) + 1}}
	}
	var said []api.Msg
	for num := m.acked + 1; num <= len(m.numbers) && num <= m.acked+8; num++ {
		x := m.numbers[num-1]
		said = append(said, api.Msg{Kind: api.MEdit, Epoch: m.epoch, Client: m.id, Num: num, Ack: m.cum, Tag: x.Tag, Op: x.Op})
		m.sent = max(m.sent, num)
	}
	if said == nil {
		said = append(said, api.Msg{Kind: api.MNod, Epoch: m.epoch, Client: m.id, Ack: m.cum})
	}
	return said
}

// wrong tells why the next record's operation is not acceptable.
func (m *model) wrong(op api.Op) api.Errno {
	forms := m.forms()
	if op.Client == m.id {
		if len(forms) > 0 && forms[0] == op {
			return api.OK
		}
		return api.ErrOwn
	}
	end := len(m.text())
	became, _ := through(op, forms)
	switch {
	case op.Seq != m.told(op.Client)+1:
		return api.ErrStrange
	case became.Kind == api.Insert && (became.Pos > end || end == 4096 || became.Pos > 4095):
		return api.ErrStrange
	case became.Kind == api.Delete && (became.Pos >= end || became.Pos > 4095):
		return api.ErrStrange
	}
	return api.OK
}

// refuses tells why a message is refused: P11.5, line by line.
func (m *model) refuses(x api.Msg) api.Errno {
	toMe := x.Kind == api.MInvite || x.Kind == api.MRecord || x.Kind == api.MBeat
	linked, told := x.Kind != api.MInvite, x.Kind == api.MRecord
	switch {
	case !toMe:
		return api.ErrStray
	case x.Client != m.id:
		return api.ErrMine
	case !linked && x.Epoch < m.epoch, linked && x.Epoch != m.epoch:
		return api.ErrStale
	case linked && x.Ack > m.sent:
		return api.ErrAck
	case told && x.Rev != m.base+x.Num:
		return api.ErrRev
	case told && x.Num > m.cum+8:
		return api.ErrFar
	case told && x.Num == m.cum+1:
		return m.wrong(x.Op)
	}
	return api.OK
}

func (m *model) receive(x api.Msg) api.Errno {
	if e := m.refuses(x); e != api.OK {
		return e
	}
	if x.Kind == api.MInvite {
		if x.Epoch != m.epoch {
			m.epoch, m.open, m.base, m.cum, m.acked, m.sent = x.Epoch, false, m.have(), 0, 0, 0
			m.held, m.numbers = map[int]api.Op{}, m.pending()
		}
		return api.OK
	}
	m.open, m.acked = true, max(m.acked, x.Ack)
	if _, here := m.held[x.Num]; x.Kind == api.MRecord && x.Num > m.cum && !here {
		m.held[x.Num] = x.Op
		m.takeIn()
	}
	return api.OK
}

func (m *model) takeIn() {
	for {
		op, here := m.held[m.cum+1]
		delete(m.held, m.cum+1)
		if !here || m.wrong(op) != api.OK {
			return
		}
		m.cum++
		m.story = append(m.story, happening{api.Edit{Op: op}, true})
	}
}

func (m *model) seen() seen {
	text, pending := m.text(), m.pending()
	return seen{api.ClientView{ID: m.id, Epoch: m.epoch, Open: m.open, Made: m.made(), Have: m.have(), Doc: text, Pending: pending}, text, pending, m.forms()}
}

// pair is a client and its model, to which the same calls are made.
type pair struct {
	c *client.Client
	m *model
}

func newPair(t *testing.T, id int) pair {
	t.Helper()
	return pair{newClient(t, id), newModel(id)}
}

// edit, tick and receive make a call to both, and end the test where they answer differently; each gives the answer in words.
func (p pair) edit(t *testing.T, kind, pos, ch int) string {
	t.Helper()
	want, wantE := p.m.edit(kind, pos, ch)
	x, e := p.made(kind, pos, ch)
	if x != want || e != wantE {
		t.Fatalf("P11.2, P11.3: against the model: kind %d at %d of %d: %+v, %d, want %+v, %d", kind, pos, ch, x, e, want, wantE)
	}
	return word(x.Op) + strconv.Itoa(int(e))
}

func (p pair) made(kind, pos, ch int) (api.Edit, api.Errno) {
	if kind == api.Insert {
		return p.c.Insert(pos, ch)
	}
	return p.c.Delete(pos)
}

func (p pair) tick(t *testing.T) string {
	t.Helper()
	said := p.c.Tick()
	wantSaid(t, "against the model", said, p.m.tick()...)
	var all strings.Builder
	for _, b := range said {
		all.WriteString(strconv.Quote(string(b)))
	}
	return all.String()
}

func (p pair) receive(t *testing.T, x api.Msg) string {
	t.Helper()
	want := p.m.receive(x)
	err := p.c.Receive(bytesOf(t, x))
	if want == api.OK && err != nil || want != api.OK && !same(err, api.Wrap(0, want)) {
		t.Fatalf("P11.5: against the model: Receive(%+v): %v, want %d; now: %s", x, err, want, see(p.c))
	}
	return "got " + strconv.Itoa(int(want))
}

func (p pair) wantSame(t *testing.T, what string) {
	t.Helper()
	if got, want := see(p.c), p.m.seen(); !got.equal(want) {
		t.Fatalf("%s: against the model: %s, want %s", what, got, want)
	}
}

// anyOp gives an operation of a record, mostly one whose turn it could be.
func (p pair) anyOp(r *rand.Rand) api.Op {
	forms := p.m.forms()
	switch k := r.IntN(10); {
	case k < 3 && len(forms) > 0:
		return forms[min(len(forms)-1, r.IntN(6)/5)]
	case k == 3 && len(forms) > 0:
		return other(forms[0])
	case k == 4:
		return ins(r.IntN(3), 'o', p.m.id, 1+r.IntN(3))
	}
	who := 1 + (p.m.id+r.IntN(7))%api.MaxClients
	seq := p.m.told(who) + 1
	if r.IntN(5) == 0 {
		seq += r.IntN(4) - 1
	}
	seq = max(1, min(seq, api.MaxEdits))
	end := len(p.m.text())
	switch k := r.IntN(8); {
	case k < 4:
		return ins(r.IntN(end+1), byte('A'+r.IntN(26)), who, seq)
	case k < 7:
		return del(r.IntN(end+1), who, seq)
	}
	return nop(who, seq)
}

// anyMsg gives a message, mostly one that can be taken.
func (p pair) anyMsg(r *rand.Rand) api.Msg {
	m := p.m
	x := api.Msg{Kind: []int{5, 5, 5, 5, 5, 5, 5, 6, 6, 4, 1, 2, 3}[r.IntN(13)], Epoch: max(1, m.epoch), Client: m.id}
	if x.Kind == api.MInvite && r.IntN(2) == 0 || r.IntN(20) == 0 {
		x.Epoch = max(1, min(255, m.epoch+r.IntN(4)-1))
	}
	if r.IntN(20) == 0 {
		x.Client = 1 + r.IntN(api.MaxClients)
	}
	switch x.Kind {
	case api.MHello:
		x.Have, x.First = m.have(), m.told(m.id)+1
	case api.MEdit:
		x.Num, x.Op = 1, ins(0, 'e', x.Client, 1)
	case api.MRecord:
		x.Num = max(1, min(4096, m.cum+1+near(r)))
		x.Rev = m.base + x.Num
		if r.IntN(20) == 0 {
			x.Rev += r.IntN(3) - 1
		}
		x.Rev = max(1, min(4096, x.Rev))
		x.Op = p.anyOp(r)
	}
	if x.Kind == api.MNod || x.Kind == api.MRecord || x.Kind == api.MBeat {
		x.Ack = max(0, m.sent-r.IntN(4)*r.IntN(3)+r.IntN(15)/14)
	}
	return x
}

// near gives a small number, mostly 0.
func near(r *rand.Rand) int {
	if r.IntN(2) == 0 {
		return 0
	}
	return r.IntN(11) - 2
}

// playOne makes one call to both.
func (p pair) playOne(t *testing.T, r *rand.Rand) string {
	t.Helper()
	end := len(p.m.text())
	switch k := r.IntN(24); {
	case k < 4:
		return p.edit(t, api.Insert, r.IntN(end+1), 'a'+r.IntN(26))
	case k < 6:
		return p.edit(t, api.Delete, r.IntN(end+1), 0)
	case k == 6:
		return p.edit(t, api.Insert, r.IntN(end+4)-1, 30+r.IntN(100))
	case k < 11:
		return p.tick(t)
	}
	return p.receive(t, p.anyMsg(r))
}

func TestAgainstModel(t *testing.T) {
	heard, most := map[string]int{}, 0
	for seed := range 200 {
		r, p := dice(seed), newPair(t, 1+seed%api.MaxClients)
		for range 250 {
			heard[p.playOne(t, r)]++
			p.wantSame(t, "P11.10")
		}
		most = max(most, p.m.have())
	}
	for _, e := range []api.Errno{api.OK, api.ErrStray, api.ErrMine, api.ErrStale, api.ErrAck, api.ErrRev, api.ErrFar, api.ErrOwn, api.ErrStrange} {
		if n := heard["got "+strconv.Itoa(int(e))]; n < 100 || most < 20 {
			t.Fatalf("the runs tell too little: the error %d came %d times, %d records were taken in at most", e, n, most)
		}
	}
}

// The calls of the short runs: edits, ticks, and messages that fit one another in many orders.
var shortCalls = []func(t *testing.T, p pair){
	func(t *testing.T, p pair) { p.edit(t, api.Insert, 0, 'a') },
	func(t *testing.T, p pair) { p.edit(t, api.Delete, 0, 0) },
	func(t *testing.T, p pair) { p.tick(t) },
	func(t *testing.T, p pair) { p.receive(t, invite(1)) },
	func(t *testing.T, p pair) { p.receive(t, invite(2)) },
	func(t *testing.T, p pair) { p.receive(t, beat(1, 1)) },
	func(t *testing.T, p pair) { p.receive(t, beat(2, 0)) },
	func(t *testing.T, p pair) { p.receive(t, record(1, 1, 0, 1, ins(0, 'x', 2, 1))) },
	func(t *testing.T, p pair) { p.receive(t, record(1, 2, 0, 2, del(0, 2, 2))) },
	func(t *testing.T, p pair) { p.receive(t, record(1, 1, 1, 1, ins(0, 'a', 1, 1))) },
	func(t *testing.T, p pair) { p.receive(t, record(1, 2, 0, 2, ins(1, 'a', 1, 1))) },
	func(t *testing.T, p pair) { p.receive(t, record(2, 1, 0, 1, ins(0, 'y', 3, 1))) },
	func(t *testing.T, p pair) { p.receive(t, record(2, 1, 0, 2, ins(0, 'y', 3, 1))) },
}

// TestAllShortRuns plays every list of four calls, from a new client on, and behind an Invite and an edit.
func TestAllShortRuns(t *testing.T) {
	const length = 4
	count := 1
	for range length {
		count *= len(shortCalls)
	}
	for _, begin := range [][]int{nil, {3, 0}, {3, 0, 7, 2}} {
		for n := range count {
			p := newPair(t, 1)
			for _, call := range begin {
				shortCalls[call](t, p)
			}
			for rest, k := n, 0; k < length; k++ {
				shortCalls[rest%len(shortCalls)](t, p)
				rest /= len(shortCalls)
			}
			p.wantSame(t, "P11.9")
			p.tick(t)
		}
	}
}

// TestSameCallsSameAnswers: also if another client is busy in between.
func TestSameCallsSameAnswers(t *testing.T) {
	for seed := range 30 {
		var heard [2]strings.Builder
		for i := range heard {
			r, p := dice(seed), newPair(t, 1)
			busy, rb := newPair(t, 1), dice(seed+1000)
			for range 120 {
				heard[i].WriteString(p.playOne(t, r) + ";" + see(p.c).String() + "\n")
				if i == 1 {
					busy.playOne(t, rb)
				}
			}
		}
		if heard[0].String() != heard[1].String() {
			t.Fatalf("P11.11: the same calls, and other answers: %s and %s", brief(heard[0].String()), brief(heard[1].String()))
		}
	}
}

// TestRefusedChangesNothing: a run with refused messages in between answers as the same run without them.
func TestRefusedChangesNothing(t *testing.T) {
	refused := 0
	for seed := range 60 {
		r, p := dice(seed), newPair(t, 1)
		plain := newClient(t, 1)
		for range 150 {
			x := p.anyMsg(r)
			if p.m.refuses(x) == api.OK {
				p.receive(t, x)
				get(t, "P11.5", plain, x)
			} else {
				refused++
				p.receive(t, x)
			}
			if r.IntN(3) == 0 {
				pos := r.IntN(len(p.m.text()) + 1)
				p.edit(t, api.Insert, pos, 'a')
				plain.Insert(pos, 'a')
			}
			said, want := p.c.Tick(), plain.Tick()
			p.m.tick()
			if !see(p.c).equal(see(plain)) || !slices.EqualFunc(said, want, slices.Equal) {
				t.Fatalf("P11.5: a refused message changes something: %s, without it %s", see(p.c), see(plain))
			}
		}
	}
	if refused < 500 {
		t.Fatalf("%d messages were refused: they tell too little", refused)
	}
}

// TestFlippedDatagrams: every datagram that could be taken is refused with one byte changed, and taken behind that.
func TestFlippedDatagrams(t *testing.T) {
	for seed := range 30 {
		r, p := dice(seed), newPair(t, 1)
		p.receive(t, invite(1))
		for range 60 {
			x := p.anyMsg(r)
			b := bytesOf(t, x)
			b[r.IntN(len(b))] ^= byte(1 + r.IntN(255))
			_, want := wire.Decode(b)
			if err := p.c.Receive(b); want == nil || !same(err, want) {
				t.Fatalf("P11.5: Receive(%x): %v, want %v", b, err, want)
			}
			p.receive(t, x)
			p.playOne(t, r)
			p.wantSame(t, "P11.5")
		}
	}
}
