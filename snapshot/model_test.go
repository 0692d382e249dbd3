package snapshot_test

import (
	"bytes"
	"encoding/binary"
	"hash/crc32"
	"math/rand/v2"
	"slices"
	"testing"

	"jotter/api"
	"jotter/doc"
	"jotter/ot"
	"jotter/snapshot"
)

// model is a state told in the plainest way: each client that has a record has its whole queue, into which every other client's record is put at once.
type model struct {
	done  []api.Op
	text  []api.Elem
	seq   [65]int
	tag   [65]int
	queue [65][]api.Marked
}

func (m *model) copied() *model {
	own := *m
	own.done, own.text = slices.Clone(m.done), slices.Clone(m.text)
	for c := range own.queue {
		own.queue[c] = slices.Clone(m.queue[c])
	}
	return &own
}

// waiting gives what waits for a client, whatever number it is.
func (m *model) waiting(c int) []api.Marked {
	if c < 1 || c > 64 {
		return nil
	}
	if m.seq[c] > 0 {
		return m.queue[c]
	}
	var all []api.Marked
	for i, op := range m.done {
		all = append(all, marked(i+1, op))
	}
	return all
}

// unseen gives what waits with marks above a tag.
func (m *model) unseen(c, tag int) []api.Marked {
	return slices.DeleteFunc(slices.Clone(m.waiting(c)), func(x api.Marked) bool { return x.Mark <= tag })
}

// room tells how long a text was that these operations have brought to the state's text.
func (m *model) room(waiting []api.Marked) int {
	n := len(m.text)
	for _, x := range waiting {
		switch x.Op.Kind {
		case api.Insert:
			n--
		case api.Delete:
			n++
		}
	}
	return n
}

func (m *model) check(e api.Edit) api.Errno {
	if bad := doc.Valid(e.Op); bad != api.OK {
		return bad
	}
	c := e.Op.Client
	switch {
	case e.Op.Kind == api.Nop:
		return api.ErrNoEdit
	case e.Op.Seq <= m.seq[c]:
		return api.ErrDone
	case e.Op.Seq > m.seq[c]+1:
		return api.ErrTurn
	case e.Tag < m.tag[c] || e.Tag > len(m.done):
		return api.ErrTag
	case doc.Fits(m.room(m.unseen(c, e.Tag)), e.Op) != api.OK:
		return api.ErrPlace
	}
	return api.OK
}

// take adds an edit, or tells why it cannot stand.
func (m *model) take(t *testing.T, e api.Edit) api.Errno {
	t.Helper()
	if bad := m.check(e); bad != api.OK {
		return bad
	}
	c, op := e.Op.Client, e.Op
	own := m.unseen(c, e.Tag)
	for i, x := range own {
		own[i].Op, op = ot.Shift(x.Op, op, true), ot.Shift(op, x.Op, false)
	}
	m.record(t, op)
	m.seq[c], m.tag[c], m.queue[c] = e.Op.Seq, e.Tag, own
	return api.OK
}

// record puts a done form behind the others.
func (m *model) record(t *testing.T, op api.Op) {
	t.Helper()
	text, bad := doc.Apply(m.text, op)
	if bad != api.OK {
		t.Fatalf("P21.8: %s does not fit a text of %d characters", opWord(op), len(m.text))
	}
	m.done, m.text = append(m.done, op), text
	for c := range m.queue {
		if c != op.Client && m.seq[c] > 0 {
			m.queue[c] = append(m.queue[c], marked(len(m.done), op))
		}
	}
}

// resume gives the model behind edits, up to the first that cannot stand, and its error.
func (m *model) resume(t *testing.T, edits []api.Edit) (*model, error) {
	t.Helper()
	next := m.copied()
	for i, e := range edits {
		if bad := next.take(t, e); bad != api.OK {
			return next, api.Wrap(i, bad)
		}
	}
	return next, nil
}

// bytes lays the state as the chapter's table says it, by other means than the program's.
func (m *model) bytes() []byte {
	b := binary.BigEndian.AppendUint16([]byte{0x4A, 0x4F, 0x54, 0x53}, uint16(len(m.done)))
	for _, op := range m.done {
		b = append(b, byte(op.Kind), byte(op.Pos>>8), byte(op.Pos), op.Ch, byte(op.Client), byte(op.Seq))
	}
	for c := 1; c <= 64; c++ {
		if m.seq[c] == 0 {
			continue
		}
		b = binary.BigEndian.AppendUint16(b, uint16(m.tag[c]))
		for _, x := range m.queue[c] {
			b = append(b, byte(x.Op.Kind), byte(x.Op.Pos>>8), byte(x.Op.Pos))
		}
	}
	return sealed(b)
}

// modelRead reads bytes by the chapter's ten rules.
func modelRead(b []byte) (*model, error) {
	k := len(b) - 4
	switch {
	case len(b) > 4194304:
		return nil, api.Wrap(4194304, api.ErrSnapForm)
	case k < 0:
		return nil, api.Wrap(len(b), api.ErrSnapForm)
	case binary.LittleEndian.Uint32(b[k:]) != crc32.ChecksumIEEE(b[:k]):
		return nil, api.Wrap(k, api.ErrSnapSum)
	case k < 4 || string(b[:4]) != "JOTS":
		return nil, api.Wrap(0, api.ErrSnapForm)
	case k < 6:
		return nil, api.Wrap(4, api.ErrSnapForm)
	}
	m, body := &model{}, b[:k]
	revs := int(body[4])<<8 | int(body[5])
	if revs > 4096 {
		return nil, api.Wrap(4, api.ErrSnapRule)
	}
	p, e := m.readRecords(body, revs)
	for c := 1; c <= 64 && e == api.OK; c++ {
		if m.seq[c] > 0 {
			p, e = m.readClient(body, p, c)
		}
	}
	if e == api.OK && p < len(body) {
		e = api.ErrSnapForm
	}
	if e != api.OK {
		return nil, api.Wrap(p, e)
	}
	return m, nil
}

// readRecords tells where the records end, or where the first wrong one begins.
func (m *model) readRecords(body []byte, revs int) (int, api.Errno) {
	p := 6
	for ; len(m.done) < revs; p += 6 {
		if len(body) < p+6 {
			return p, api.ErrSnapForm
		}
		x := body[p : p+6]
		op := api.Op{Kind: int(x[0]), Pos: int(x[1])*256 + int(x[2]), Ch: x[3], Client: int(x[4]), Seq: int(x[5])}
		text, bad := doc.Apply(m.text, op)
		if bad != api.OK || op.Seq != m.seq[op.Client]+1 {
			return p, api.ErrSnapRule
		}
		m.done, m.text = append(m.done, op), text
		m.seq[op.Client]++
	}
	return p, api.OK
}

// readClient tells where a client's forms end, or where the first wrong thing begins.
func (m *model) readClient(body []byte, p, c int) (int, api.Errno) {
	if len(body) < p+2 {
		return p, api.ErrSnapForm
	}
	at, tag := p, int(body[p])*256+int(body[p+1])
	seen := slices.ContainsFunc(m.done[min(tag, len(m.done)):], func(op api.Op) bool { return op.Client == c })
	if !seen {
		return p, api.ErrSnapRule
	}
	m.tag[c] = tag
	p += 2
	for i := tag; i < len(m.done); i++ {
		if m.done[i].Client == c {
			continue
		}
		if len(body) < p+3 {
			return p, api.ErrSnapForm
		}
		op := m.done[i]
		kind, pos := int(body[p]), int(body[p+1])*256+int(body[p+2])
		switch {
		case kind == api.Nop && pos == 0:
			op = nop(op.Client, op.Seq)
		case kind == api.Nop || kind != op.Kind || pos > 4095:
			return p, api.ErrSnapRule
		default:
			op.Pos = pos
		}
		m.queue[c] = append(m.queue[c], marked(i+1, op))
		p += 3
	}
	if n := m.room(m.queue[c]); !fitLine(n, m.queue[c]) {
		return at, api.ErrSnapRule
	}
	return p, api.OK
}

// fitLine tells whether operations fit, one behind the other, a text that has n characters at first.
func fitLine(n int, line []api.Marked) bool {
	if n < 0 || n > 4096 {
		return false
	}
	for _, x := range line {
		if doc.Fits(n, x.Op) != api.OK {
			return false
		}
		n += []int{0, 1, -1}[x.Op.Kind]
	}
	return true
}

// wantSame ends the test unless all that a state tells is what the model tells.
func wantSame(t *testing.T, what string, s *snapshot.Snap, m *model) {
	t.Helper()
	if s == nil {
		t.Fatalf("%s: there is no state, want that of %s", what, opsWord(m.done))
	}
	if s.Revs() != len(m.done) {
		t.Fatalf("%s: P21.5: Revs = %d, want %d", what, s.Revs(), len(m.done))
	}
	if got := s.Doc(); !doc.Equal(got, m.text) {
		t.Fatalf("%s: P21.5: Doc = %q, want %q", what, doc.Text(brief(got)), doc.Text(brief(m.text)))
	}
	for c := -1; c <= 66; c++ {
		wantSeq, wantTag := 0, 0
		switch {
		case c < 1 || c > 64:
		case m.seq[c] == 0 && c > 3 && c < 64:
			continue // one is like the other
		default:
			wantSeq, wantTag = m.seq[c], m.tag[c]
		}
		if seq, tag := s.Last(c); seq != wantSeq || tag != wantTag {
			t.Fatalf("%s: P21.5: Last(%d) = %d, %d, want %d, %d", what, c, seq, tag, wantSeq, wantTag)
		}
		if got, want := s.Waiting(c), m.waiting(c); !slices.Equal(got, want) {
			t.Fatalf("%s: P21.5: Waiting(%d) = %s, want %s", what, c, waitingWord(got), waitingWord(want))
		}
	}
	if got, want := s.Bytes(), m.bytes(); !bytes.Equal(got, want) {
		t.Fatalf("%s: P21.2: Bytes = % X (%d), want % X (%d)", what, brief(got), len(got), brief(want), len(want))
	}
}

// goOn gives edits to a state and to its model, and gives what both have come to.
func goOn(t *testing.T, s *snapshot.Snap, m *model, edits ...api.Edit) (*snapshot.Snap, *model) {
	t.Helper()
	want, wrong := m.resume(t, edits)
	done, next, err := s.Resume(edits)
	what := "P21.6: Resume of " + editsWord(edits)
	wantError(t, what, err, wrong)
	if !slices.Equal(done, want.done[len(m.done):]) {
		t.Fatalf("%s = %s, want %s", what, opsWord(done), opsWord(want.done[len(m.done):]))
	}
	wantSame(t, what, next, want)
	return next, want
}

// wantRead ends the test unless Read answers what the model's does; then it gives both states, or nothing.
func wantRead(t *testing.T, b []byte) (*snapshot.Snap, *model) {
	t.Helper()
	m, wrong := modelRead(b)
	s, err := snapshot.Read(b)
	if wrong != nil {
		if s != nil {
			t.Fatalf("P21.3: Read of % X: a state, want the error %v", brief(b), wrong)
		}
		wantError(t, "P21.3: Read", err, wrong)
		return nil, nil
	}
	if s == nil || err != nil {
		t.Fatalf("P21.3: Read of % X: the error %v, want a state", brief(b), err)
	}
	if !bytes.Equal(s.Bytes(), b) {
		t.Fatalf("P21.4: Read of % X: Bytes = % X", brief(b), brief(s.Bytes()))
	}
	return s, m
}

// goodEdit gives an edit that can be added to a state, of one of the first few clients; ok false: that client has none left.
func (m *model) goodEdit(r *rand.Rand, clients int) (e api.Edit, ok bool) {
	c := 1 + r.IntN(clients)
	if m.seq[c] == 64 {
		return e, false
	}
	least, revs := m.tag[c], len(m.done)
	tag := []int{least, revs, least + r.IntN(revs-least+1)}[r.IntN(3)]
	n := m.room(m.unseen(c, tag))
	if n > 0 && r.IntN(5) < 2 {
		return edit(tag, del(r.IntN(n), c, m.seq[c]+1)), true
	}
	pos := []int{0, n, r.IntN(n + 1), min(1, n)}[r.IntN(4)]
	return edit(tag, ins(pos, 'a'+byte(r.IntN(26)), c, m.seq[c]+1)), true
}

// nearEdit gives an edit with each number near what it may be, or just beyond.
func (m *model) nearEdit(r *rand.Rand, clients int) api.Edit {
	c := 1 + r.IntN(clients)
	tag := m.tag[c] - 1 + r.IntN(len(m.done)-m.tag[c]+3)
	op := ins(r.IntN(6), 'z', c, m.seq[c]+1)
	if r.IntN(2) == 0 {
		op = del(r.IntN(6), c, m.seq[c]+1)
	}
	switch r.IntN(12) {
	case 0:
		op = nop(c, op.Seq)
	case 1:
		op.Seq += r.IntN(4) - 2
	case 2:
		op.Client = []int{-1, 0, 64, 65}[r.IntN(4)]
	case 3:
		op.Ch = []byte{0, 31, 32, 126, 127, 255}[r.IntN(6)]
	case 4:
		op.Pos = []int{-1, 4095, 4096, 1 << 40}[r.IntN(4)]
	case 5:
		op.Kind = r.IntN(6) - 2
	}
	return edit(tag, op)
}

// mixed gives edits that can all stand, of so many clients.
func mixed(t *testing.T, r *rand.Rand, clients, count int) []api.Edit {
	t.Helper()
	m := &model{}
	var edits []api.Edit
	for tries := 0; len(edits) < count && tries < 20*count; tries++ {
		if e, ok := m.goodEdit(r, clients); ok {
			if bad := m.take(t, e); bad != api.OK {
				t.Fatalf("the model refuses %s: %d", editsWord([]api.Edit{e}), bad)
			}
			edits = append(edits, e)
		}
	}
	return edits
}
