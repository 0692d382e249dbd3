package vault_test

import (
	"bytes"
	"encoding/binary"
	"hash/crc32"
	"math/rand/v2"
	"reflect"
	"slices"
	"strconv"
	"strings"
	"testing"

	"jotter/api"
	"jotter/disk"
	"jotter/doc"
	"jotter/snapshot"
	"jotter/vault"
)

// ins, del and nop make operations, as the chapter writes them: ins(0, 'x', 2, 1) is i0x(2,1).
func ins(pos int, ch byte, who, seq int) api.Op {
	return api.Op{Kind: api.Insert, Pos: pos, Ch: ch, Client: who, Seq: seq}
}

func del(pos, who, seq int) api.Op {
	return api.Op{Kind: api.Delete, Pos: pos, Client: who, Seq: seq}
}

func nop(who, seq int) api.Op { return api.Op{Kind: api.Nop, Client: who, Seq: seq} }

func edit(tag int, op api.Op) api.Edit { return api.Edit{Tag: tag, Op: op} }

// bootOf, editOf and markOf lay items as the tables of layer 6 and of the chapter say it, by other means than the program's.
func bootOf(epoch int) []byte { return []byte{1, byte(epoch)} }

func editOf(e api.Edit) []byte {
	b := binary.BigEndian.AppendUint16([]byte{2}, uint16(e.Tag))
	b = append(b, byte(e.Op.Kind))
	b = binary.BigEndian.AppendUint16(b, uint16(e.Op.Pos))
	return append(b, e.Op.Ch, byte(e.Op.Client), byte(e.Op.Seq))
}

func markOf(base, epoch int) []byte {
	return append(binary.BigEndian.AppendUint16([]byte{3}, uint16(base)), byte(epoch))
}

// sealed gives bytes with their sum behind them.
func sealed(parts ...[]byte) []byte {
	b := slices.Concat(parts...)
	return binary.LittleEndian.AppendUint32(b, crc32.ChecksumIEEE(b))
}

// recordOf lays payloads on a disk, one behind the other, as layer 3's table says it.
func recordOf(payloads ...[]byte) []byte {
	var image []byte
	for _, p := range payloads {
		b := binary.BigEndian.AppendUint16(nil, uint16(len(p)))
		b = binary.BigEndian.AppendUint16(b, uint16(65535-len(p)))
		image = append(image, sealed(b, p)...)
	}
	return image
}

// B, E and M are records of a boot, an edit and a mark.
func B(epoch int) []byte { return recordOf(bootOf(epoch)) }

func E(tag int, op api.Op) []byte { return recordOf(editOf(edit(tag, op))) }

func M(base, epoch int) []byte { return recordOf(markOf(base, epoch)) }

func join(parts ...[]byte) []byte { return slices.Concat(parts...) }

// slotOf gives a slot's bytes of a state's bytes and an Epoch, as the chapter says it.
func slotOf(state []byte, epoch int) []byte {
	n := uint32(len(state) + 1)
	b := binary.BigEndian.AppendUint32(nil, n)
	b = binary.BigEndian.AppendUint32(b, ^n)
	return sealed(b, []byte{byte(epoch)}, state)
}

// slotAt gives the slot's bytes of edits that must all stand.
func slotAt(t *testing.T, epoch int, edits ...api.Edit) []byte {
	t.Helper()
	s, err := snapshot.Of(edits)
	if err != nil {
		t.Fatalf("edits that cannot stand: %v", err)
	}
	return slotOf(s.Bytes(), epoch)
}

// changed gives the bytes with one of them changed.
func changed(b []byte, at int, mask byte) []byte {
	c := bytes.Clone(b)
	c[at] ^= mask
	return c
}

// trio is three disks and the vault over them.
type trio struct {
	d [3]*disk.Disk
	v *vault.Vault
}

// diskOf gives a disk with these bytes, the first so many of them synced.
func diskOf(t *testing.T, b []byte, synced int) *disk.Disk {
	t.Helper()
	d, e := disk.From(b[:synced])
	if e != api.OK || d.Append(b[synced:]) != api.OK {
		t.Fatalf("no disk of %d bytes", len(b))
	}
	return d
}

// over opens a vault over disks with these bytes, all synced.
func over(t *testing.T, log, one, two []byte) (*trio, error) {
	t.Helper()
	x := &trio{d: [3]*disk.Disk{diskOf(t, log, len(log)), diskOf(t, one, len(one)), diskOf(t, two, len(two))}}
	return x, x.open()
}

func (x *trio) open() (err error) {
	x.v, err = vault.Open(x.d[0], x.d[1], x.d[2])
	return err
}

// copied gives disks with the same bytes, as much of them synced, and no vault.
func (x *trio) copied(t *testing.T) *trio {
	t.Helper()
	y := &trio{}
	for i, d := range x.d {
		y.d[i] = diskOf(t, d.Bytes(), d.Synced())
	}
	return y
}

// again opens another vault over copies of the disks. It must answer one.
func (x *trio) again(t *testing.T) (*trio, error) {
	t.Helper()
	y := x.copied(t)
	err := y.open()
	if y.v == nil {
		t.Fatalf("P27.1: no vault over %s: %v", y.disksWord(), err)
	}
	return y, err
}

// fresh gives a vault over new disks.
func fresh(t *testing.T) *trio {
	t.Helper()
	x := &trio{d: [3]*disk.Disk{disk.New(), disk.New(), disk.New()}}
	if err := x.open(); err != nil || x.v == nil {
		t.Fatalf("P27.1: Open of new disks: a vault %t, %v", x.v != nil, err)
	}
	return x
}

// born gives one with a boot and the edit i0a(1,1): the middle of example 1.
func born(t *testing.T) *trio {
	t.Helper()
	x := fresh(t)
	x.boot(t, 1)
	x.add(t, edit(0, ins(0, 'a', 1, 1)), 1, ins(0, 'a', 1, 1))
	return x
}

// kept gives the end of example 1.
func kept(t *testing.T) *trio {
	t.Helper()
	x := born(t)
	x.check(t)
	return x
}

// twice gives the vault of example 2 behind its first checkpoint.
func twice(t *testing.T) *trio {
	t.Helper()
	x := kept(t)
	x.add(t, edit(1, ins(1, 'b', 1, 2)), 2, ins(1, 'b', 1, 2))
	x.check(t)
	return x
}

func (x *trio) boot(t *testing.T, epoch int) {
	t.Helper()
	if n, e := x.v.Boot(); n != epoch || e != api.OK || x.v.Epoch() != epoch {
		t.Fatalf("P27.2: Boot = %d, %d, Epoch %d, want %d", n, e, x.v.Epoch(), epoch)
	}
}

func (x *trio) add(t *testing.T, e api.Edit, rev int, done api.Op) {
	t.Helper()
	if n, op, bad := x.v.Add(e); n != rev || op != done || bad != api.OK {
		t.Fatalf("P27.3: Add(%s) = %d, %s, %d, want %d, %s", word(e), n, opWord(op), bad, rev, opWord(done))
	}
}

// check does a checkpoint that must be done.
func (x *trio) check(t *testing.T) {
	t.Helper()
	if e := x.v.Checkpoint(); e != api.OK {
		t.Fatalf("P27.5: Checkpoint = %d", e)
	}
}

// refused ends the test unless a checkpoint is refused with that number, and nothing changes by that.
func (x *trio) refused(t *testing.T, what string, want api.Errno) {
	t.Helper()
	before := x.see()
	if e := x.v.Checkpoint(); e != want {
		t.Fatalf("P27.5: %s: Checkpoint = %d, want %d", what, e, want)
	}
	wantSeen(t, "P27.5: a refused Checkpoint: "+what, x.see(), before)
}

// notAdded ends the test unless an edit is refused with that number, and nothing changes by that.
func (x *trio) notAdded(t *testing.T, e api.Edit, want api.Errno) {
	t.Helper()
	before := x.see()
	if n, op, bad := x.v.Add(e); n != 0 || op != (api.Op{}) || bad != want {
		t.Fatalf("P27.3: Add(%s) = %d, %s, %d, want 0, nothing, %d", word(e), n, opWord(op), bad, want)
	}
	wantSeen(t, "P27.3: a refused Add", x.see(), before)
}

// is tells whether the vault answers so, and the disks have so many bytes.
func (x *trio) is(t *testing.T, what string, epoch, revs, base, synced int, text string, sizes ...int) {
	t.Helper()
	if x.v == nil {
		t.Fatalf("P27.1: %s: no vault", what)
	}
	s := x.see()
	if s.epoch != epoch || s.revs != revs || s.base != base || s.synced != synced || doc.Text(s.text) != text {
		t.Errorf("P27.6: %s: %s, want Epoch %d, Revs %d, Base %d, Synced %d, %q", what, s, epoch, revs, base, synced, text)
	}
	for i, n := range sizes {
		if x.d[i].Size() != n {
			t.Errorf("%s: disk %d has %d bytes, want %d", what, i, x.d[i].Size(), n)
		}
	}
}

// answers are all that a vault tells without a change.
type answers struct {
	epoch, revs, base, synced int
	lasts                     [api.MaxClients + 2][2]int
	text                      []api.Elem
}

// seen are a vault's answers and its disks.
type seen struct {
	answers
	bytes [3][]byte
	firm  [3]int
}

func ask(v *vault.Vault) answers {
	a := answers{epoch: v.Epoch(), revs: v.Revs(), base: v.Base(), synced: v.Synced(), text: v.Doc()}
	for i := range a.lasts {
		a.lasts[i][0], a.lasts[i][1] = v.Last(i)
	}
	return a
}

func (a answers) same(b answers) bool {
	return a.epoch == b.epoch && a.revs == b.revs && a.base == b.base && a.synced == b.synced && a.lasts == b.lasts && slices.Equal(a.text, b.text)
}

func (a answers) String() string {
	return "Epoch " + strconv.Itoa(a.epoch) + ", Revs " + strconv.Itoa(a.revs) + ", Base " + strconv.Itoa(a.base) + ", Synced " + strconv.Itoa(a.synced) + ", " + strconv.Quote(brief(doc.Text(a.text)))
}

func (x *trio) see() seen {
	s := seen{answers: ask(x.v)}
	for i, d := range x.d {
		s.bytes[i], s.firm[i] = d.Bytes(), d.Synced()
	}
	return s
}

func (s seen) String() string {
	text := s.answers.String()
	for i, b := range s.bytes {
		text += "; " + strconv.Itoa(s.firm[i]) + " synced of " + hexWord(b)
	}
	return text
}

func (s seen) same(o seen) bool {
	for i, b := range s.bytes {
		if !bytes.Equal(b, o.bytes[i]) {
			return false
		}
	}
	return s.answers.same(o.answers) && s.firm == o.firm
}

func wantSeen(t *testing.T, what string, got, want seen) {
	t.Helper()
	if !got.same(want) {
		t.Fatalf("%s:\n%s, want\n%s", what, got, want)
	}
}

// wantError ends the test unless an error is just that one.
func wantError(t *testing.T, what string, got, want error) {
	t.Helper()
	if !reflect.DeepEqual(got, want) {
		t.Fatalf("%s: the error %v, want %v", what, got, want)
	}
}

// dice gives numbers that look mixed, the same at every run.
func dice(seed int) *rand.Rand { return rand.New(rand.NewPCG(uint64(seed), 27)) }

// anyEdit gives an edit that mostly can stand behind what a vault or a book has: its text has n characters, and so many records.
func anyEdit(r *rand.Rand, clients, revs, n int, last func(int) (int, int)) api.Edit {
	client := 1 + r.IntN(clients)
	seq, tag := last(client)
	e := edit(max(tag, revs-r.IntN(4)), ins(r.IntN(n+1), byte('a'+revs%26), client, seq+1))
	if n > 0 && r.IntN(3) == 0 {
		e.Op = del(r.IntN(n), client, seq+1)
	}
	if r.IntN(10) > 0 {
		return e
	}
	switch r.IntN(7) {
	case 0:
		e.Op = nop(client, seq+r.IntN(3))
	case 1:
		e.Tag = revs + 1 - r.IntN(8)
	case 2:
		e.Op.Seq += r.IntN(4) - 2
	case 3:
		e.Op.Pos += r.IntN(5) - 2
	case 4:
		e.Op.Kind = r.IntN(5) - 1
	case 5:
		e.Op.Ch += 128
	default:
		e.Op.Client = r.IntN(70) - 3
	}
	return e
}

func opWord(op api.Op) string {
	who := "(" + strconv.Itoa(op.Client) + "," + strconv.Itoa(op.Seq) + ")"
	return strconv.Itoa(op.Kind) + "@" + strconv.Itoa(op.Pos) + strconv.Quote(string(rune(op.Ch))) + who
}

func word(e api.Edit) string { return strconv.Itoa(e.Tag) + ":" + opWord(e.Op) }

func (x *trio) disksWord() string {
	var words []string
	for _, d := range x.d {
		words = append(words, hexWord(d.Bytes()))
	}
	return strings.Join(words, ", ")
}

func hexWord(b []byte) string {
	var words []string
	for _, x := range b[:min(len(b), 100)] {
		words = append(words, strconv.FormatInt(int64(x), 16))
	}
	return strconv.Itoa(len(b)) + " bytes [" + strings.Join(words, " ") + "]"
}

// brief gives the beginning of a text, because some are long.
func brief(s string) string { return s[:min(len(s), 400)] }
