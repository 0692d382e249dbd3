package snapshot_test

import (
	"bytes"
	"math/rand/v2"
	"slices"
	"testing"

	"jotter/api"
	"jotter/book"
	"jotter/doc"
	"jotter/ot"
	"jotter/snapshot"
)

// pool gives edits of three clients that meet one another in many ways.
func pool() []api.Edit {
	var list []api.Edit
	for c := 1; c <= 2; c++ {
		for tag := range 3 {
			list = append(list, edit(tag, ins(0, 'a', c, 1)), edit(tag, del(0, c, 2)), edit(tag, ins(1, 'b', c, 2)), edit(tag, ins(0, 'c', c, 3)), edit(tag, del(1, c, 3)))
		}
	}
	return append(list, edit(0, ins(0, 'x', 3, 1)), edit(2, del(1, 3, 1)), edit(3, ins(2, 'y', 3, 1)))
}

// TestShortLogs: all logs of up to five of these edits behind one of client 1, and each of them that cannot stand there.
func TestShortLogs(t *testing.T) {
	s, m := goOn(t, of(t), &model{}, edit(0, ins(0, 'm', 1, 1)))
	if logs := explore(t, s, m, 5); logs < 2000 {
		t.Fatalf("the logs tell too little: there are %d", logs)
	}
}

// explore goes on from a state in all ways, and tells how many states it has come to.
func explore(t *testing.T, s *snapshot.Snap, m *model, depth int) int {
	t.Helper()
	logs := 1
	for _, e := range pool() {
		next, want := goOn(t, s, m, e)
		if len(want.done) > len(m.done) && depth > 1 {
			logs += explore(t, next, want, depth-1)
		}
	}
	return logs
}

// TestMixedRuns: long runs of right and wrong edits, some given one by one and some as lists, each state read again.
func TestMixedRuns(t *testing.T) {
	heard, nops := map[api.Errno]int{}, 0
	for seed := range 60 {
		r := dice(seed + 10)
		s, m, clients := of(t), &model{}, 1+seed%6
		for range 40 {
			list := m.someEdits(t, r, clients)
			_, wrong := m.resume(t, list)
			heard[api.Code(wrong)]++
			s, m = goOn(t, s, m, list...)
			if r.IntN(2) == 0 {
				s = read(t, s.Bytes())
			}
			for c := range m.queue {
				nops += count(m.queue[c], func(x api.Marked) bool { return x.Op.Kind == api.Nop })
			}
		}
	}
	for _, e := range []api.Errno{api.OK, api.ErrOpKind, api.ErrWho, api.ErrCh, api.ErrPos, api.ErrNoEdit, api.ErrDone, api.ErrTurn, api.ErrTag, api.ErrPlace} {
		if heard[e] < 5 {
			t.Fatalf("the runs tell too little: the error %d came %d times", e, heard[e])
		}
	}
	if nops < 100 {
		t.Fatalf("the runs tell too little: %d Nops wait", nops)
	}
}

func count[T any](list []T, is func(T) bool) int {
	n := 0
	for _, x := range list {
		if is(x) {
			n++
		}
	}
	return n
}

// someEdits gives up to six edits one behind the other, few of them wrong.
func (m *model) someEdits(t *testing.T, r *rand.Rand, clients int) []api.Edit {
	t.Helper()
	next := m.copied()
	var list []api.Edit
	for range r.IntN(7) {
		e, ok := next.goodEdit(r, clients)
		if !ok || r.IntN(6) == 0 {
			e = next.nearEdit(r, clients)
		}
		next.take(t, e)
		list = append(list, e)
	}
	return list
}

// TestGoingOn: from every state of a log, read off its bytes, the rest of the log comes to what the book makes of the whole, wrong edits at the end too.
func TestGoingOn(t *testing.T) {
	for seed := range 40 {
		r := dice(seed + 200)
		a := mixed(t, r, 1+seed%7, 5+seed)
		m, _ := (&model{}).resume(t, a)
		list := slices.Concat(a, []api.Edit{m.nearEdit(r, 3)}, pair())
		done, text, wrong := book.Replay(list)
		whole, err := snapshot.Of(list)
		wantError(t, "P21.1: Of what book.Replay refuses", err, wrong)
		if whole == nil || !doc.Equal(whole.Doc(), text) || whole.Revs() != len(done) {
			t.Fatalf("P21.1: Of %s: not what book.Replay tells", editsWord(list))
		}
		for k := range len(a) + 1 {
			s := read(t, of(t, list[:k]...).Bytes())
			got, next, err := s.Resume(list[k:])
			wantError(t, "P21.7", err, later(wrong, -k))
			if !slices.Equal(got, done[k:]) {
				t.Fatalf("P21.7: from %d on: %s, want %s", k, opsWord(got), opsWord(done[k:]))
			}
			if next == nil || !bytes.Equal(next.Bytes(), whole.Bytes()) || !bytes.Equal(next.Bytes(), of(t, list[:len(done)]...).Bytes()) {
				t.Fatalf("P21.7: from %d on: another state", k)
			}
		}
	}
}

// later gives an error with its place moved.
func later(err error, by int) error {
	if err == nil {
		return nil
	}
	return api.Wrap(api.Place(err)+by, api.Code(err))
}

// life is a client as it lived: its text, and its edits that no record has told back, as they stand now.
type life struct {
	text  []api.Elem
	forms []api.Op
}

// takeIn takes in a record of its own, or one of another in the form that it answers.
func (l *life) takeIn(t *testing.T, id int, op api.Op) api.Op {
	t.Helper()
	if op.Client == id {
		l.forms = l.forms[1:]
		return api.Op{}
	}
	for i, own := range l.forms {
		l.forms[i], op = ot.Shift(own, op, false), ot.Shift(op, own, true)
	}
	l.change(t, op)
	return op
}

func (l *life) change(t *testing.T, op api.Op) {
	t.Helper()
	text, bad := doc.Apply(l.text, op)
	if bad != api.OK {
		t.Fatalf("%s does not fit the client's text: %d", opWord(op), bad)
	}
	l.text = text
}

// waits gives what a client that made its edits of a log will see of the others' records, in the forms in which it will take them in, and its text ahead of that and behind.
func waits(t *testing.T, edits []api.Edit, done []api.Op, id int) (ahead []api.Elem, list []api.Marked, behind []api.Elem) {
	t.Helper()
	l, have := &life{}, 0
	for _, e := range edits {
		if e.Op.Client != id {
			continue
		}
		for ; have < e.Tag; have++ {
			l.takeIn(t, id, done[have])
		}
		l.change(t, e.Op)
		l.forms = append(l.forms, e.Op)
	}
	ahead = slices.Clone(l.text)
	for ; have < len(done); have++ {
		if op := l.takeIn(t, id, done[have]); op != (api.Op{}) {
			list = append(list, marked(have+1, op))
		}
	}
	return ahead, list, l.text
}

// TestClientsSide: what waits for a client is what it will take in; it brings the client's text to the server's.
func TestClientsSide(t *testing.T) {
	for seed := range 40 {
		edits := mixed(t, dice(seed+300), 2+seed%8, 10+2*seed)
		done, text, _ := book.Replay(edits)
		s := of(t, edits...)
		for id := 1; id <= 11; id++ {
			ahead, list, behind := waits(t, edits, done, id)
			if got := s.Waiting(id); !slices.Equal(got, list) {
				t.Fatalf("P21.5: Waiting(%d) = %s, want %s", id, waitingWord(got), waitingWord(list))
			}
			if !doc.Equal(behind, text) {
				t.Fatalf("client %d comes to %q, the server to %q", id, doc.Text(behind), doc.Text(text))
			}
			// Its room is just its text's length: the last place is taken, the one behind it is not.
			seq, tag := s.Last(id)
			if seq == api.MaxEdits {
				continue
			}
			resumed(t, s, edit(tag, ins(len(ahead), 'x', id, seq+1)))
			_, _, err := s.Resume([]api.Edit{edit(tag, ins(len(ahead)+1, 'x', id, seq+1))})
			wantError(t, "P21.6: behind the client's text", err, api.Wrap(0, api.ErrPlace))
		}
	}
}

// parts is a state's bytes taken apart, so that they can be forged.
type parts struct {
	records []api.Op
	tags    []int      // of each client with a record, rising
	forms   [][]api.Op // of each of them; Kind and Pos alone count
}

func (x parts) bytes() []byte {
	m := &model{done: x.records}
	for _, op := range x.records {
		m.seq[op.Client]++
	}
	k := 0
	for c := range m.seq {
		if m.seq[c] > 0 {
			m.tag[c] = x.tags[k]
			for _, op := range x.forms[k] {
				m.queue[c] = append(m.queue[c], api.Marked{Op: op})
			}
			k++
		}
	}
	return m.bytes()
}

// forged gives parts that Read must take: records that fit, tags that may be, forms that fit, and all else as the dice say. fade: of ten operations so many delete.
func forged(r *rand.Rand, clients, count, fade int) parts {
	var x parts
	m := &model{}
	for len(m.done) < count {
		c := 1 + r.IntN(clients)
		if m.seq[c] == 64 {
			continue
		}
		op := someOp(r, len(m.text), fade)
		op.Client, op.Seq = c, m.seq[c]+1
		m.text, _ = doc.Apply(m.text, op)
		m.seq[c]++
		m.done = append(m.done, op)
	}
	x.records = m.done
	for c := range m.seq {
		if m.seq[c] > 0 {
			tag, forms := forgedSide(r, m, c)
			x.tags, x.forms = append(x.tags, tag), append(x.forms, forms)
		}
	}
	return x
}

// someOp gives an operation that fits a text of n characters.
func someOp(r *rand.Rand, n, fade int) api.Op {
	switch k := r.IntN(10); {
	case k == 9:
		return api.Op{}
	case k < fade && n > 0:
		return del(r.IntN(n), 0, 0)
	}
	return ins(r.IntN(n+1), 'a'+byte(r.IntN(26)), 0, 0)
}

// forgedSide gives a tag and forms that may be a client's: where a form fits nowhere, the Nop stands, and if the room is below 0 then, all of them are Nops.
func forgedSide(r *rand.Rand, m *model, c int) (int, []api.Op) {
	last := 0
	for i, op := range m.done {
		if op.Client == c {
			last = i + 1
		}
	}
	tag := r.IntN(last)
	var list []api.Marked
	for i, op := range m.done[tag:] {
		switch {
		case op.Client == c:
			continue
		case r.IntN(4) == 0:
			op = nop(op.Client, op.Seq)
		}
		list = append(list, marked(tag+i+1, op))
	}
	n, forms := m.room(list), []api.Op{}
	for _, x := range list {
		op := x.Op
		switch {
		case n < 0, op.Kind == api.Delete && n == 0:
			return tag, make([]api.Op, len(list))
		case op.Kind == api.Insert:
			op.Pos = r.IntN(n + 1)
			n++
		case op.Kind == api.Delete:
			op.Pos = r.IntN(n)
			n--
		}
		forms = append(forms, op)
	}
	return tag, forms
}

// TestForgedGoOn: a state that no log comes to goes on by the same rules, and each done form fits.
func TestForgedGoOn(t *testing.T) {
	for seed := range 300 {
		r := dice(seed + 400)
		clients := 1 + seed%5
		b := forged(r, clients, 1+seed%17, seed%7).bytes()
		s, m := wantRead(t, b)
		if s == nil {
			t.Fatalf("P21.3: Read of % X is refused", b)
		}
		wantSame(t, "P21.4: forged", s, m)
		for range 15 {
			s, m = goOn(t, s, m, m.someEdits(t, r, clients+1)...)
			b := s.Bytes()
			if s, m = wantRead(t, b); s == nil {
				t.Fatalf("P21.4: Read of a state's bytes % X is refused", b)
			}
		}
	}
}

// TestGreatestForged: forged states of nearly all records that there can be, up to the last one.
func TestGreatestForged(t *testing.T) {
	for fade := range 3 {
		r := dice(fade + 900)
		s, m := wantRead(t, forged(r, 64, 4090, 2*fade).bytes())
		if s == nil {
			t.Fatal("P21.3: Read of a great forged state is refused")
		}
		for len(m.done) < api.MaxLog {
			if e, ok := m.goodEdit(r, 64); ok {
				s, m = goOn(t, s, m, e)
			}
		}
		if s, _ = wantRead(t, s.Bytes()); s == nil {
			t.Fatal("P21.4: Read of the bytes of a state with all records is refused")
		}
	}
}

// probes gives edits of the first few clients around what a state takes.
func (m *model) probes(clients int) []api.Edit {
	var list []api.Edit
	for c := 1; c <= clients; c++ {
		for tag := m.tag[c] - 1; tag <= len(m.done)+1; tag++ {
			n := m.room(m.unseen(c, tag))
			for pos := range n + 2 {
				list = append(list, edit(tag, ins(pos, 'x', c, m.seq[c]+1)), edit(tag, del(pos, c, m.seq[c]+1)))
			}
		}
	}
	return list
}

// sides calls do with every tag and every list of forms that a client may have beside these records, be they right or wrong.
func sides(records []api.Op, c int, do func(tag int, forms []api.Op)) {
	for tag := range len(records) + 1 {
		others := slices.DeleteFunc(slices.Clone(records[min(tag, len(records)):]), func(op api.Op) bool { return op.Client == c })
		allForms(len(others), nil, func(forms []api.Op) { do(tag, forms) })
	}
}

// allForms calls do with every list of so many short forms.
func allForms(left int, forms []api.Op, do func([]api.Op)) {
	if left == 0 {
		do(forms)
		return
	}
	for _, op := range []api.Op{{}, {Pos: 1}, ins(0, 0, 0, 0), ins(1, 0, 0, 0), ins(2, 0, 0, 0), del(0, 0, 0), del(1, 0, 0)} {
		allForms(left-1, append(slices.Clip(forms), op), do)
	}
}

// TestAllSmallForged: every state's bytes of two or three records of two clients, with all tags and short forms, is read as the rules say, and those that are taken take each edit as they say.
func TestAllSmallForged(t *testing.T) {
	taken, refused := 0, 0
	for _, last := range []api.Op{ins(0, 'b', 2, 1), ins(1, 'b', 2, 1), del(0, 2, 1), nop(2, 1)} {
		for _, ahead := range [][]api.Op{{ins(0, 'a', 1, 1)}, {ins(0, 'a', 1, 1), ins(0, 'c', 1, 2)}, {ins(0, 'a', 1, 1), del(0, 1, 2)}} {
			records := append(slices.Clone(ahead), last)
			sides(records, 1, func(tag1 int, forms1 []api.Op) {
				sides(records, 2, func(tag2 int, forms2 []api.Op) {
					s, m := wantRead(t, parts{records, []int{tag1, tag2}, [][]api.Op{forms1, forms2}}.bytes())
					if s == nil {
						refused++
						return
					}
					taken++
					for _, e := range m.probes(2) {
						goOn(t, s, m, e)
					}
				})
			})
		}
	}
	if taken < 200 || refused < 2000 {
		t.Fatalf("the bytes tell too little: %d are taken, %d refused", taken, refused)
	}
}

// TestBentParts: a state's parts with some of their numbers another.
func TestBentParts(t *testing.T) {
	taken, refused := 0, 0
	for seed := range 4000 {
		r := dice(seed + 1000)
		x := forged(r, 1+seed%5, 1+seed%13, seed%7)
		for range 1 + r.IntN(2) {
			bend(r, x)
		}
		if s, _ := wantRead(t, x.bytes()); s == nil {
			refused++
		} else {
			taken++
		}
	}
	if taken < 500 || refused < 500 {
		t.Fatalf("the bytes tell too little: %d are taken, %d refused", taken, refused)
	}
}

// bend changes one number of a state's parts.
func bend(r *rand.Rand, x parts) {
	k := r.IntN(len(x.tags))
	switch n := len(x.forms[k]); {
	case n > 0 && r.IntN(3) > 0:
		op := &x.forms[k][r.IntN(n)]
		op.Pos = []int{op.Pos + 1, max(op.Pos-1, 0), 0, r.IntN(6), 4095, 4096}[r.IntN(6)]
		op.Kind = []int{op.Kind, op.Kind, op.Kind, r.IntN(4)}[r.IntN(4)]
	case r.IntN(2) == 0:
		x.tags[k] = max(x.tags[k]+r.IntN(3)-1, 0)
	default:
		op := &x.records[r.IntN(len(x.records))]
		op.Pos = max(op.Pos+r.IntN(3)-1, 0)
		op.Seq += r.IntN(8) / 7
		op.Kind = (op.Kind + r.IntN(8)/7) % 3
	}
}
