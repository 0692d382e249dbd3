package book_test

import (
	"math/rand/v2"
	"slices"
	"strings"
	"testing"

	"jotter/api"
	"jotter/book"
	"jotter/disk"
)

// model is a book told from the clients' side: it has no queues. What an edit comes to is told by its client's life, which is lived anew each time: the edits that it made, each at its tag, and the records that it took in.
type model struct {
	items  []api.Item
	done   []api.Op
	synced int // items
}

// past gives a behind b, by layer 5's rules told anew.
func past(a, b api.Op, aFirst bool) api.Op {
	switch {
	case a.Kind == api.Nop || b.Kind == api.Nop || b.Pos > a.Pos:
		return a
	case b.Kind == api.Insert && b.Pos == a.Pos && a.Kind == api.Insert && aFirst:
		return a
	case b.Kind == api.Insert:
		a.Pos++
	case b.Pos < a.Pos:
		a.Pos--
	case a.Kind == api.Delete:
		return nop(a.Client, a.Seq)
	}
	return a
}

// apply changes a text by an operation that fits it.
func apply(text []api.Elem, op api.Op) []api.Elem {
	switch op.Kind {
	case api.Insert:
		return slices.Insert(text, op.Pos, api.Elem{Ch: op.Ch, Client: op.Client, Seq: op.Seq})
	case api.Delete:
		return slices.Delete(text, op.Pos, op.Pos+1)
	}
	return text
}

// life is a client's text, and its edits that no record has told back, as they stand now.
type life struct {
	id    int
	have  int
	text  []api.Elem
	forms []api.Op
}

// takeIn takes in records up to that number.
func (l *life) takeIn(records []api.Op, have int) {
	for ; l.have < have; l.have++ {
		op := records[l.have]
		if op.Client == l.id {
			l.forms = l.forms[1:]
			continue
		}
		for i, own := range l.forms {
			l.forms[i], op = past(own, op, false), past(op, own, true)
		}
		l.text = apply(l.text, op)
	}
}

func (l *life) make(op api.Op) {
	l.text = apply(l.text, op)
	l.forms = append(l.forms, op)
}

// lived gives the life of a client that has made all its edits that are in the log.
func (m *model) lived(id int) *life {
	l := &life{id: id}
	for _, e := range m.edits() {
		if e.Op.Client == id {
			l.takeIn(m.done, e.Tag)
			l.make(e.Op)
		}
	}
	return l
}

// lengthAt tells how long the client's text is when it has taken in so many records.
func (m *model) lengthAt(id, tag int) int {
	l := m.lived(id)
	l.takeIn(m.done, tag)
	return len(l.text)
}

func (m *model) edits() []api.Edit {
	var list []api.Edit
	for _, x := range m.items {
		if x.Kind == api.LEdit {
			list = append(list, api.Edit{Tag: x.Tag, Op: x.Op})
		}
	}
	return list
}

func (m *model) epoch() int { return len(m.items) - len(m.edits()) }

// syncedEdits tells how many of the synced items are edits.
func (m *model) syncedEdits() int {
	n := 0
	for _, x := range m.items[:m.synced] {
		if x.Kind == api.LEdit {
			n++
		}
	}
	return n
}

func (m *model) last(id int) (seq, tag int) {
	for _, e := range m.edits() {
		if e.Op.Client == id {
			seq, tag = e.Op.Seq, e.Tag
		}
	}
	return seq, tag
}

func (m *model) text(revs int) []api.Elem {
	var text []api.Elem
	for _, op := range m.done[:revs] {
		text = apply(text, op)
	}
	return text
}

// invalid tells doc's errors, by layer 4's rules told anew.
func invalid(op api.Op) api.Errno {
	least, most := 0, 0
	if op.Kind == api.Insert {
		least, most = 32, 126
	}
	switch {
	case op.Kind < 0 || op.Kind > 2:
		return api.ErrOpKind
	case op.Client < 1 || op.Client > 64 || op.Seq < 1 || op.Seq > 64:
		return api.ErrWho
	case int(op.Ch) < least || int(op.Ch) > most:
		return api.ErrCh
	case op.Pos < 0 || op.Pos > 4095 || op.Kind == api.Nop && op.Pos > 0:
		return api.ErrPos
	}
	return api.OK
}

func (m *model) check(e api.Edit) api.Errno {
	if m.epoch() == 0 {
		return api.ErrUnborn
	}
	if bad := invalid(e.Op); bad != api.OK {
		return bad
	}
	seq, tag := m.last(e.Op.Client)
	switch {
	case e.Op.Kind == api.Nop:
		return api.ErrNoEdit
	case e.Op.Seq <= seq:
		return api.ErrDone
	case e.Op.Seq > seq+1:
		return api.ErrTurn
	case e.Tag < tag || e.Tag > len(m.done):
		return api.ErrTag
	}
	n := m.lengthAt(e.Op.Client, e.Tag)
	if e.Op.Kind == api.Delete {
		n--
	}
	if e.Op.Pos > n {
		return api.ErrPlace
	}
	return api.OK
}

// add adds an edit that check takes: its done form is what its client waits for when it has all records ahead of it.
func (m *model) add(e api.Edit) api.Op {
	l := m.lived(e.Op.Client)
	l.takeIn(m.done, e.Tag)
	l.make(e.Op)
	l.takeIn(m.done, len(m.done))
	m.items = append(m.items, itemOf(e))
	m.done = append(m.done, l.forms[0])
	return l.forms[0]
}

func (m *model) boot() { m.items = append(m.items, boot(m.epoch()+1)) }

// cut gives the model of the first so many items, all of them synced that were.
func (m *model) cut(items int) *model {
	c := &model{items: m.items[:items:items], synced: min(m.synced, items)}
	c.done = slices.Clip(m.done[:len(c.edits())])
	return c
}

// pair is a book with its disk, and the model beside it.
type pair struct {
	b *book.Book
	d *disk.Disk
	m *model
}

func newPair(t *testing.T) *pair {
	t.Helper()
	b, d := fresh(t)
	return &pair{b, d, &model{}}
}

// add gives an edit to both, and gives the error.
func (p *pair) add(t *testing.T, e api.Edit) api.Errno {
	t.Helper()
	want := p.m.check(e)
	if got := p.b.Check(e); got != want {
		t.Fatalf("P12.1: Check(%s) = %d, want %d; %s", word(e), got, want, see(p.b, p.d))
	}
	rev, done := 0, api.Op{}
	if want == api.OK {
		done = p.m.add(e)
		rev = len(p.m.done)
	}
	if n, op, bad := p.b.Add(e); n != rev || op != done || bad != want {
		t.Fatalf("P12.2: Add(%s) = %d, %s, %d, want %d, %s, %d; %s", word(e), n, opWord(op), bad, rev, opWord(done), want, see(p.b, p.d))
	}
	return want
}

func (p *pair) boot(t *testing.T) {
	t.Helper()
	p.m.boot()
	wantBoot(t, p.b, p.m.epoch())
}

func (p *pair) sync(t *testing.T) {
	t.Helper()
	before := p.m.syncedEdits()
	p.m.synced = len(p.m.items)
	if n := p.b.Sync(); n != p.m.syncedEdits()-before {
		t.Fatalf("P12.4: Sync = %d, want %d", n, p.m.syncedEdits()-before)
	}
}

// wantSame ends the test unless all that the book tells is what the model tells.
func (p *pair) wantSame(t *testing.T, what string) {
	t.Helper()
	m, revs := p.m, len(p.m.done)
	if p.b.Epoch() != m.epoch() || p.b.Revs() != revs || p.b.Synced() != m.syncedEdits() {
		t.Fatalf("%s: P12.4: %s, want Epoch %d, Revs %d, Synced %d", what, see(p.b, p.d), m.epoch(), revs, m.syncedEdits())
	}
	for id := -1; id <= api.MaxClients+1; id++ {
		seq, tag := p.b.Last(id)
		if wantSeq, wantTag := m.last(id); seq != wantSeq || tag != wantTag {
			t.Fatalf("%s: P12.4: Last(%d) = %d, %d, want %d, %d", what, id, seq, tag, wantSeq, wantTag)
		}
	}
	if !slices.Equal(p.b.Edits(), m.edits()) {
		t.Fatalf("%s: P12.5: Edits = %s, want %s", what, words(p.b.Edits()), words(m.edits()))
	}
	p.wantRecords(t, what)
	p.wantDisk(t, what)
}

func (p *pair) wantRecords(t *testing.T, what string) {
	t.Helper()
	revs, edits := len(p.m.done), p.m.edits()
	for rev := 0; rev <= revs+1; rev++ {
		want, wantOp, wantBad := api.Edit{}, api.Op{}, api.ErrNoRev
		if rev > 0 && rev <= revs {
			want, wantOp, wantBad = edits[rev-1], p.m.done[rev-1], api.OK
		}
		if got, bad := p.b.Edit(rev); got != want || bad != wantBad {
			t.Fatalf("%s: P12.5: Edit(%d) = %s, %d, want %s, %d", what, rev, word(got), bad, word(want), wantBad)
		}
		if got, bad := p.b.Done(rev); got != wantOp || bad != wantBad {
			t.Fatalf("%s: P12.5: Done(%d) = %s, %d, want %s, %d", what, rev, opWord(got), bad, opWord(wantOp), wantBad)
		}
	}
	for rev := range revs + 1 {
		got, bad := p.b.Doc(rev)
		if want := p.m.text(rev); !slices.Equal(got, want) || bad != api.OK {
			t.Fatalf("%s: P12.5: Doc(%d) = %s, %d, want %s", what, rev, textWord(got), bad, textWord(want))
		}
	}
}

func (p *pair) wantDisk(t *testing.T, what string) {
	t.Helper()
	if got, want := p.d.Bytes(), imageOfItems(p.m.items...); !slices.Equal(got, want) {
		t.Fatalf("%s: P12.11: the disk has % x, want % x", what, got, want)
	}
	if want := len(imageOfItems(p.m.items[:p.m.synced]...)); p.d.Synced() != want {
		t.Fatalf("%s: P12.4: %d bytes are synced, want %d", what, p.d.Synced(), want)
	}
}

// goodEdit gives an edit that can be added, of one of a few clients; ok false: none of this client can.
func (p *pair) goodEdit(r *rand.Rand, clients int) (e api.Edit, ok bool) {
	id := 1 + r.IntN(clients)
	seq, least := p.m.last(id)
	if seq == api.MaxEdits {
		return api.Edit{}, false
	}
	revs := len(p.m.done)
	tag := []int{least, revs, least + r.IntN(revs-least+1)}[r.IntN(3)]
	n := p.m.lengthAt(id, tag)
	if n > 0 && r.IntN(5) < 2 {
		return edit(tag, del(r.IntN(n), id, seq+1)), true
	}
	pos := []int{0, n, r.IntN(n + 1), min(1, n)}[r.IntN(4)]
	return edit(tag, ins(pos, 'a'+byte(r.IntN(26)), id, seq+1)), true
}

// nearEdit gives an edit with each number near what it may be, or just beyond.
func (p *pair) nearEdit(r *rand.Rand, clients int) api.Edit {
	id := 1 + r.IntN(clients)
	seq, tag := p.m.last(id)
	e := edit(tag-1+r.IntN(len(p.m.done)-tag+3), api.Op{Kind: 1 + r.IntN(2), Pos: r.IntN(8), Client: id, Seq: seq + 1})
	if e.Op.Kind == api.Insert {
		e.Op.Ch = 'z'
	}
	switch r.IntN(12) {
	case 0:
		e.Op = nop(id, e.Op.Seq)
	case 1:
		e.Op.Seq += r.IntN(3) - 1
	case 2:
		e.Op.Client = []int{-1, 0, 64, 65}[r.IntN(4)]
	case 3:
		e.Op.Ch = []byte{0, 31, 32, 126, 127, 255}[r.IntN(6)]
	case 4:
		e.Op.Pos = []int{-1, 4095, 4096, 1 << 40}[r.IntN(4)]
	case 5:
		e.Op.Kind = r.IntN(6) - 2
	}
	return e
}

// playOne makes one call to both, and tells what came of it.
func (p *pair) playOne(t *testing.T, r *rand.Rand, clients int) api.Errno {
	t.Helper()
	switch k := r.IntN(20); {
	case k == 0 && p.m.epoch() < api.MaxEpoch:
		p.boot(t)
	case k < 3:
		p.sync(t)
	case k < 8:
		return p.add(t, p.nearEdit(r, clients))
	default:
		if e, ok := p.goodEdit(r, clients); ok {
			return p.add(t, e)
		}
	}
	return api.OK
}

// played gives a pair that some calls were made on, with a boot at the beginning.
func played(t *testing.T, r *rand.Rand, clients, calls int) *pair {
	t.Helper()
	p := newPair(t)
	p.boot(t)
	for range calls {
		p.playOne(t, r, clients)
	}
	return p
}

func TestAgainstModel(t *testing.T) {
	heard, nops := map[api.Errno]int{}, 0
	for seed := range 150 {
		r, p := dice(seed), newPair(t)
		for range 60 {
			heard[p.playOne(t, r, 1+seed%5)]++
			p.wantSame(t, "P12.5")
		}
		for _, op := range p.m.done {
			if op.Kind == api.Nop {
				nops++
			}
		}
	}
	for _, e := range []api.Errno{api.OK, api.ErrUnborn, api.ErrOpKind, api.ErrWho, api.ErrCh, api.ErrPos, api.ErrNoEdit, api.ErrDone, api.ErrTurn, api.ErrTag, api.ErrPlace} {
		if heard[e] < 20 {
			t.Fatalf("the runs tell too little: the error %d came %d times", e, heard[e])
		}
	}
	if nops < 50 {
		t.Fatalf("the runs tell too little: %d edits have nothing left to do", nops)
	}
}

// TestLongRunsAgainstModel: queues that grow long, and edits that wait for long.
func TestLongRunsAgainstModel(t *testing.T) {
	for seed := range 6 {
		r, p := dice(seed+500), newPair(t)
		p.boot(t)
		for range 250 {
			p.playOne(t, r, 3+seed*3)
		}
		p.wantSame(t, "P12.5")
	}
}

// shortEdits are edits of two clients that meet one another in many ways.
func shortEdits() []api.Edit {
	var list []api.Edit
	for id := 1; id <= 2; id++ {
		for tag := range 3 {
			list = append(list, edit(tag, ins(0, 'a', id, 1)), edit(tag, del(0, id, 2)), edit(tag, ins(1, 'b', id, 2)), edit(tag, ins(0, 'c', id, 3)), edit(tag, del(1, id, 3)))
		}
	}
	return append(list, edit(0, ins(0, 'x', 3, 1)), edit(2, del(1, 3, 1)), edit(3, ins(2, 'y', 3, 1)))
}

// TestShortLogs adds lists of four of these edits, the refused ones too, behind one of client 1.
func TestShortLogs(t *testing.T) {
	const length = 4
	edits := shortEdits()
	count := 1
	for range length {
		count *= len(edits)
	}
	for n := 0; n < count; n += 5 { // a fifth of them: 5 has no divisor in common with their number, so every three edits stand side by side somewhere
		p := newPair(t)
		p.boot(t)
		p.add(t, edit(0, ins(0, 'm', 1, 1)))
		for rest, k := n, 0; k < length; k++ {
			p.add(t, edits[rest%len(edits)])
			rest /= len(edits)
		}
	}
}

// TestSameCallsSameAnswers: also if another book is busy in between.
func TestSameCallsSameAnswers(t *testing.T) {
	for seed := range 20 {
		var heard [2]strings.Builder
		for i := range heard {
			r, p := dice(seed), newPair(t)
			busy, rb := newPair(t), dice(seed+1000)
			for range 60 {
				p.playOne(t, r, 3)
				heard[i].WriteString(see(p.b, p.d).String() + "\n")
				if i == 1 {
					busy.playOne(t, rb, 3)
				}
			}
		}
		if heard[0].String() != heard[1].String() {
			t.Fatalf("P0.1: the same calls, and other answers: %s and %s", brief(heard[0].String()), brief(heard[1].String()))
		}
	}
}
