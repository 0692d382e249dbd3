package vault_test

import (
	"bytes"
	"encoding/binary"
	"hash/crc32"
	"math/rand/v2"
	"slices"
	"strconv"
	"testing"

	"jotter/api"
	"jotter/disk"
	"jotter/snapshot"
	"jotter/vault"
)

// model is a vault told by its disks alone: it keeps nothing but their bytes, and reads them anew for each answer.
type model struct {
	log  []byte
	firm int // of the log's bytes
	slot [2][]byte
}

// reading is what the disks come to.
type reading struct {
	state       *snapshot.Snap
	epoch, base int
	baseEpoch   int
	newest      int   // 0, 1, or -1: none is good
	begin       int   // records ahead of the log
	ends        []int // of the log's edits
}

// takeApart gives the payloads of a log's bytes, up to the first that is torn or spoilt, with that one's place and reason (OK: none).
func takeApart(b []byte) (list [][]byte, at int, why api.Errno) {
	for at < len(b) {
		rest := b[at:]
		if len(rest) < 4 {
			return list, at, api.ErrTorn
		}
		n, turned := int(binary.BigEndian.Uint16(rest)), int(binary.BigEndian.Uint16(rest[2:]))
		if n+turned != 65535 || n == 0 || n > 64 {
			return list, at, api.ErrHead
		}
		if len(rest) < n+8 {
			return list, at, api.ErrTorn
		}
		if crc32.ChecksumIEEE(rest[:n+4]) != binary.LittleEndian.Uint32(rest[n+4:]) {
			return list, at, api.ErrRecord
		}
		list = append(list, rest[4:n+4])
		at += n + 8
	}
	return list, at, api.OK
}

// whyBad tells why bytes are no slot's, or gives what they hold.
func whyBad(b []byte) (*snapshot.Snap, int, api.Errno) {
	if len(b) < 4 {
		return nil, 0, api.ErrShort
	}
	body := b[:len(b)-4]
	if crc32.ChecksumIEEE(body) != binary.LittleEndian.Uint32(b[len(b)-4:]) {
		return nil, 0, api.ErrSum
	}
	if len(body) < 9 {
		return nil, 0, api.ErrSnapForm
	}
	n, turned := uint64(binary.BigEndian.Uint32(body)), uint64(binary.BigEndian.Uint32(body[4:]))
	if n+turned != 4294967295 || n != uint64(len(body)-8) {
		return nil, 0, api.ErrSnapForm
	}
	if body[8] == 0 {
		return nil, 0, api.ErrSnapRule
	}
	s, err := snapshot.Read(body[9:])
	if err != nil {
		return nil, 0, api.Code(err)
	}
	return s, int(body[8]), api.OK
}

// open does to the bytes what Open does to the disks, and tells what they come to, and Open's error.
func (m *model) open() (*reading, error) {
	x, spoilt := m.readSlots()
	list, at, torn := takeApart(m.log)
	m.cut(at)
	epoch, first := 0, 0
	if len(list) > 0 {
		if p := list[0]; len(p) == 4 && p[0] == 3 && p[3] > 0 && binary.BigEndian.Uint16(p[1:]) <= 4096 {
			x.begin, epoch, first = int(binary.BigEndian.Uint16(p[1:])), int(p[3]), 1
		}
	}
	if x.begin > x.base || epoch > x.baseEpoch {
		return nil, api.Wrap(0, api.ErrOlder)
	}
	mark := [3]int{first, x.begin, epoch}
	rev := x.begin
	end := 12 * first
	why := api.OK
	for _, p := range list[first:] {
		if why = x.next(p, &rev, &epoch); why != api.OK {
			break
		}
		end += len(p) + 8
		if p[0] == 2 {
			x.ends = append(x.ends, end)
		}
	}
	m.cut(end)
	var err error
	switch {
	case why != api.OK:
		err = api.Wrap(end, why)
	case torn != api.OK:
		err = api.Wrap(at, torn)
	default:
		err = spoilt
	}
	x.epoch = max(epoch, x.baseEpoch)
	if x.newest >= 0 && (rev < x.base || epoch < x.baseEpoch || rev == x.base && epoch == x.baseEpoch && mark != [3]int{1, x.base, x.baseEpoch}) {
		m.beginAnew(x)
	}
	return x, err
}

// readSlots begins with the newest good slot, or with nothing.
func (m *model) readSlots() (*reading, error) {
	empty, _ := snapshot.Of(nil)
	x := &reading{state: empty, newest: -1}
	var spoilt error
	for i, b := range m.slot {
		if len(b) == 0 {
			continue
		}
		s, epoch, why := whyBad(b)
		if why != api.OK && spoilt == nil {
			spoilt = api.Wrap(i+1, why)
		}
		if why != api.OK {
			continue
		}
		if x.newest < 0 || s.Revs() > x.base || s.Revs() == x.base && epoch > x.baseEpoch {
			*x = reading{state: s, base: s.Revs(), epoch: epoch, baseEpoch: epoch, newest: i}
		}
	}
	return x, spoilt
}

// next goes past one item, or tells why it cannot stand.
func (x *reading) next(p []byte, rev, epoch *int) api.Errno {
	switch {
	case p[0] != 1 && p[0] != 2:
		return api.ErrMsgKind
	case p[0] == 1 && len(p) != 2 || p[0] == 2 && len(p) != 9:
		return api.ErrLength
	case p[0] == 1 && p[1] == 0:
		return api.ErrField
	case p[0] == 1 && (int(p[1]) != *epoch+1 || int(p[1]) > x.baseEpoch && *rev < x.base):
		return api.ErrItem
	case p[0] == 1:
		*epoch++
		return api.OK
	}
	e := edit(int(binary.BigEndian.Uint16(p[1:])), api.Op{Kind: int(p[3]), Pos: int(binary.BigEndian.Uint16(p[4:])), Ch: p[6], Client: int(p[7]), Seq: int(p[8])})
	if !layable(e) {
		return api.ErrField
	}
	if *epoch == 0 {
		return api.ErrUnborn
	}
	if *rev < x.base {
		if own := x.state.Bytes()[6+6**rev:]; own[4] != p[7] || own[5] != p[8] {
			return api.ErrItem
		}
		*rev++
		return api.OK
	}
	if *epoch < x.baseEpoch {
		return api.ErrItem
	}
	_, s, err := x.state.Resume([]api.Edit{e})
	if err == nil {
		x.state = s
		*rev++
	}
	return api.Code(err)
}

// layable tells whether an edit may stand in a log item, by layer 6's table.
func layable(e api.Edit) bool {
	op := e.Op
	place := op.Kind > 0 && op.Pos < 4096 || op.Pos == 0
	ch := op.Kind == 1 && op.Ch >= 32 && op.Ch <= 126 || op.Kind != 1 && op.Ch == 0
	return e.Tag <= 4096 && op.Kind <= 2 && place && ch && op.Client >= 1 && op.Client <= 64 && op.Seq >= 1 && op.Seq <= 64
}

func (m *model) cut(n int) {
	m.log = m.log[:n]
	m.firm = min(m.firm, n)
}

func (m *model) beginAnew(x *reading) {
	m.log = M(x.base, x.baseEpoch)
	m.firm = len(m.log)
	x.begin, x.ends = x.base, nil
}

func (m *model) copied() *model {
	return &model{bytes.Clone(m.log), m.firm, [2][]byte{bytes.Clone(m.slot[0]), bytes.Clone(m.slot[1])}}
}

// read tells what the disks come to, and that they stay as they are by that.
func (m *model) read(t *testing.T) *reading {
	t.Helper()
	c := m.copied()
	x, _ := c.open()
	if x == nil || !bytes.Equal(c.log, m.log) || c.firm != m.firm {
		t.Fatal("the model's disks are none of an open vault")
	}
	return x
}

// synced tells how many records outlive a crash.
func (m *model) synced(x *reading) int {
	n := x.begin
	for _, end := range x.ends {
		if end <= m.firm {
			n++
		}
	}
	return max(n, x.base)
}

func (m *model) see(t *testing.T) seen {
	t.Helper()
	x := m.read(t)
	s := seen{answers: answers{epoch: x.epoch, revs: x.state.Revs(), base: x.base, synced: m.synced(x), text: x.state.Doc()}}
	for i := range s.lasts {
		s.lasts[i][0], s.lasts[i][1] = x.state.Last(i)
	}
	s.bytes = [3][]byte{m.log, m.slot[0], m.slot[1]}
	s.firm = [3]int{m.firm, len(m.slot[0]), len(m.slot[1])}
	return s
}

func (m *model) boot(t *testing.T) (int, api.Errno) {
	x := m.read(t)
	if x.epoch == 255 {
		return 0, api.ErrEpochs
	}
	m.log = join(m.log, B(x.epoch+1))
	return x.epoch + 1, api.OK
}

func (m *model) add(t *testing.T, e api.Edit) (int, api.Op, api.Errno) {
	x := m.read(t)
	if x.epoch == 0 {
		return 0, api.Op{}, api.ErrUnborn
	}
	done, s, err := x.state.Resume([]api.Edit{e})
	if err != nil {
		return 0, api.Op{}, api.Code(err)
	}
	m.log = join(m.log, recordOf(editOf(e)))
	return s.Revs(), done[0], api.OK
}

func (m *model) sync(t *testing.T) int {
	before := m.synced(m.read(t))
	m.firm = len(m.log)
	return m.synced(m.read(t)) - before
}

func (m *model) checkpoint(t *testing.T) api.Errno {
	x := m.read(t)
	if x.state.Revs() == x.base && x.epoch == x.baseEpoch {
		return api.ErrAgain
	}
	other := 0
	if x.newest == 0 {
		other = 1
	}
	m.slot[other] = slotOf(x.state.Bytes(), x.epoch)
	x.base, x.baseEpoch = x.state.Revs(), x.epoch
	m.beginAnew(x)
	return api.OK
}

// moments gives what lay on the disks at times of one life: each of its logs, and each of its slots.
func moments(t *testing.T, r *rand.Rand) (logs, slots [][]byte) {
	t.Helper()
	m := &model{}
	slots = append(slots, nil)
	clients := 1 + r.IntN(3)
	for range 3 + r.IntN(20) {
		switch r.IntN(8) {
		case 0, 1:
			m.boot(t)
		case 2:
			if m.checkpoint(t) == api.OK {
				slots = append(slots, m.slot[0], m.slot[1])
			}
		default:
			x := m.read(t)
			m.add(t, anyEdit(r, clients, x.state.Revs(), len(x.state.Doc()), x.state.Last))
		}
		logs = append(logs, m.log)
	}
	return logs, slots
}

// mixedDisks gives three disks' bytes that come from one life, at different times of it often, and spoilt often.
func mixedDisks(t *testing.T, r *rand.Rand) [3][]byte {
	t.Helper()
	logs, slots := moments(t, r)
	late := func(list [][]byte) []byte { return list[max(r.IntN(len(list)), r.IntN(len(list)))] }
	log := late(logs)
	if r.IntN(3) == 0 {
		log = mixedLog(r, log, late(logs))
	}
	one, two := late(slots), late(slots)
	if r.IntN(4) == 0 {
		one = mixedSlot(r, one)
	}
	if r.IntN(4) == 0 {
		two = mixedSlot(r, two)
	}
	return [3][]byte{log, one, two}
}

// mixedLog gives a log that is nearly another: some records gone, doubled, out of order, spoilt, cut, out of another log, some of no item.
func mixedLog(r *rand.Rand, b, other []byte) []byte {
	list, _, _ := takeApart(b)
	more, _, _ := takeApart(other)
	for range 1 + r.IntN(2) {
		i := r.IntN(len(list) + 1)
		switch r.IntN(6) {
		case 0:
			list = list[i:]
		case 1:
			list = slices.Insert(slices.Clone(list), i, nearly(r))
		case 2:
			list = slices.Concat(list[:i], more)
		case 3:
			list = slices.Concat(more, list[i:])
		case 4:
			list = slices.Delete(slices.Clone(list), i, min(i+1, len(list)))
		default:
			if i < len(list) {
				list = slices.Clone(list)
				list[i] = changed(list[i], r.IntN(len(list[i])), byte(1<<r.IntN(8)))
			}
		}
	}
	b = recordOf(list...)
	if len(b) > 0 && r.IntN(3) == 0 {
		b = changed(b, r.IntN(len(b)), byte(1+r.IntN(255)))
	}
	if r.IntN(3) == 0 {
		b = b[:r.IntN(len(b)+1)]
	}
	return b
}

// nearly gives a payload that may be an item or not.
func nearly(r *rand.Rand) []byte {
	p := editOf(edit(r.IntN(6), api.Op{Kind: r.IntN(4), Pos: r.IntN(5), Ch: byte(r.IntN(2) * 'x'), Client: r.IntN(5), Seq: r.IntN(5)}))
	switch r.IntN(5) {
	case 0:
		p = bootOf(r.IntN(6))
	case 1:
		p = markOf(r.IntN(4), r.IntN(4))
	case 2:
		p = p[:1+r.IntN(8)]
	case 3:
		p = editOf(edit(r.IntN(3), nop(1+r.IntN(3), 1+r.IntN(4))))
	}
	return p
}

// mixedSlot gives a slot's bytes that are nearly right, with the right sums often.
func mixedSlot(r *rand.Rand, b []byte) []byte {
	if len(b) < 14 || r.IntN(6) == 0 {
		return b[:r.IntN(len(b)+1)]
	}
	switch r.IntN(6) {
	case 0:
		return changed(b, r.IntN(len(b)), byte(1+r.IntN(255)))
	case 1:
		return sealed(changed(b[:len(b)-4], r.IntN(len(b)-4), byte(1<<r.IntN(8))))
	case 2:
		state := b[9 : len(b)-8]
		return slotOf(sealed(changed(state, r.IntN(len(state)), byte(1<<r.IntN(3)))), int(b[8]))
	case 3:
		return slotOf(b[9:len(b)-4], r.IntN(5))
	case 4:
		return b[:r.IntN(5)]
	}
	return append(bytes.Clone(b), byte(r.IntN(2)))
}

// opened gives a vault and a model over the same bytes, some of them not synced (nil: there is none).
func opened(t *testing.T, r *rand.Rand, b [3][]byte) (*trio, *model, error) {
	t.Helper()
	m := &model{b[0], r.IntN(len(b[0]) + 1), [2][]byte{b[1], b[2]}}
	if r.IntN(2) == 0 {
		m.firm = len(b[0])
	}
	x := &trio{d: [3]*disk.Disk{diskOf(t, m.log, m.firm), diskOf(t, b[1], r.IntN(len(b[1])+1)), diskOf(t, b[2], r.IntN(len(b[2])+1))}}
	err := x.open()
	told, want := m.open()
	wantError(t, "P27.1: Open of "+hexWord(b[0])+", "+hexWord(b[1])+", "+hexWord(b[2]), err, want)
	if (x.v == nil) != (told == nil) {
		t.Fatalf("P27.1: Open of %s: a vault %t, want one %t", x.disksWord(), x.v != nil, told != nil)
	}
	if x.v == nil {
		if !bytes.Equal(x.d[0].Bytes(), m.log) {
			t.Fatalf("P27.1: %v: the log has %s, want %s", err, hexWord(x.d[0].Bytes()), hexWord(m.log))
		}
		return nil, nil, err
	}
	return x, m, err
}

// playBoth does one thing to both, and tells whether the answers are the same.
func playBoth(t *testing.T, r *rand.Rand, x *trio, m *model) api.Errno {
	t.Helper()
	switch r.IntN(8) {
	case 0:
		n, e := x.v.Boot()
		if wantN, want := m.boot(t); n != wantN || e != want {
			t.Fatalf("P27.2: Boot = %d, %d, want %d, %d", n, e, wantN, want)
		}
		return e
	case 1:
		if n, want := x.v.Sync(), m.sync(t); n != want {
			t.Fatalf("P27.4: Sync = %d, want %d", n, want)
		}
		return api.OK
	case 2:
		e := x.v.Checkpoint()
		if want := m.checkpoint(t); e != want {
			t.Fatalf("P27.5: Checkpoint = %d, want %d", e, want)
		}
		return e
	}
	e := anyEdit(r, 3, x.v.Revs(), len(x.v.Doc()), x.v.Last)
	n, op, bad := x.v.Add(e)
	if wantN, wantOp, want := m.add(t, e); n != wantN || op != wantOp || bad != want {
		t.Fatalf("P27.3: Add(%s) = %d, %s, %d, want %d, %s, %d", word(e), n, opWord(op), bad, wantN, opWord(wantOp), want)
	}
	return bad
}

// TestAgainstModel: vaults over disks of all kinds, and what they come to when they go on, are just what their disks tell.
func TestAgainstModel(t *testing.T) {
	r := dice(1)
	counts := map[string]int{}
	for range 6000 {
		b := mixedDisks(t, r)
		x, m, err := opened(t, r, b)
		switch {
		case err == nil:
			counts["sound"]++
		case api.Place(err) == 1 && api.Code(err) != api.ErrOlder, api.Place(err) == 2:
			counts["slot "+codeWord(api.Code(err))]++
		default:
			counts["log "+codeWord(api.Code(err))]++
		}
		if x == nil {
			continue
		}
		wantSeen(t, "P27.1, P27.6: behind Open", x.see(), m.see(t))
		if x.v.Revs() > x.v.Base() && x.v.Base() > 0 {
			counts["goes on from a slot"]++
		}
		for range r.IntN(8) {
			counts["call "+codeWord(playBoth(t, r, x, m))]++
			wantSeen(t, "P27.2 to P27.6: behind a call", x.see(), m.see(t))
		}
	}
	wantCounts(t, counts, 5, "sound", "goes on from a slot", "call "+codeWord(api.OK))
	for _, e := range []api.Errno{api.ErrTorn, api.ErrHead, api.ErrRecord, api.ErrMsgKind, api.ErrLength, api.ErrField, api.ErrItem, api.ErrUnborn, api.ErrOlder, api.ErrNoEdit, api.ErrDone, api.ErrTurn, api.ErrTag, api.ErrPlace} {
		wantCounts(t, counts, 5, "log "+codeWord(e))
	}
	for _, e := range []api.Errno{api.ErrShort, api.ErrSum, api.ErrSnapForm, api.ErrSnapSum, api.ErrSnapRule} {
		wantCounts(t, counts, 5, "slot "+codeWord(e))
	}
	for _, e := range []api.Errno{api.ErrAgain, api.ErrUnborn, api.ErrOpKind, api.ErrWho, api.ErrCh, api.ErrPos, api.ErrNoEdit, api.ErrDone, api.ErrTurn, api.ErrTag, api.ErrPlace} {
		wantCounts(t, counts, 5, "call "+codeWord(e))
	}
}

func codeWord(e api.Errno) string { return strconv.Itoa(int(e)) }

// wantCounts ends the test if the inputs came to one of these too seldom: they tell too little then.
func wantCounts(t *testing.T, counts map[string]int, least int, names ...string) {
	t.Helper()
	for _, name := range names {
		if counts[name] < least {
			t.Errorf("the inputs tell too little of %q: %d times; all: %v", name, counts[name], counts)
		}
	}
}

// TestEveryShortLog: all logs of up to four out of nine records, with each of four slots.
func TestEveryShortLog(t *testing.T) {
	parts := [][]byte{B(1), B(2), M(1, 1), M(2, 1), M(1, 2), E(0, ins(0, 'a', 1, 1)), E(0, ins(0, 'b', 2, 1)), E(1, ins(1, 'b', 1, 2)), recordOf([]byte{9})}
	a, b := edit(0, ins(0, 'a', 1, 1)), edit(0, ins(0, 'b', 2, 1))
	slots := [][]byte{nil, slotAt(t, 1, a), slotAt(t, 1, a, b), slotAt(t, 2, a)}
	r := dice(2)
	var try func(log []byte, left int)
	try = func(log []byte, left int) {
		for i, slot := range slots {
			if x, m, _ := opened(t, r, [3][]byte{log, slot, slots[(i+len(log))%4]}); x != nil {
				wantSeen(t, "P27.1: "+hexWord(log), x.see(), m.see(t))
			}
		}
		if left == 0 {
			return
		}
		for _, p := range parts {
			try(join(log, p), left-1)
		}
	}
	try(nil, 4)
}

// TestVaultsShareNothing: one that others are opened and used beside answers as if it were alone.
func TestVaultsShareNothing(t *testing.T) {
	x, y := twice(t), twice(t)
	was := x.see()
	y.boot(t, 2)
	y.add(t, edit(0, ins(0, 'q', 5, 1)), 3, ins(2, 'q', 5, 1))
	y.check(t)
	if _, err := vault.Open(disk.New(), disk.New(), disk.New()); err != nil {
		t.Fatal(err)
	}
	wantSeen(t, "P0.1: beside another vault", x.see(), was)
}
