package doctor_test

import (
	"bytes"
	"encoding/binary"
	"errors"
	"hash/crc32"
	"math/rand/v2"
	"slices"
	"strconv"
	"strings"
	"testing"

	"jotter/api"
	"jotter/book"
	"jotter/disk"
	"jotter/doctor"
)

// ins, del and nop make operations, as the chapter writes them: ins(0, 'x', 2, 1) is i0x(2,1).
func ins(pos int, ch byte, who, seq int) api.Op {
	return api.Op{Kind: api.Insert, Pos: pos, Ch: ch, Client: who, Seq: seq}
}

func del(pos, who, seq int) api.Op {
	return api.Op{Kind: api.Delete, Pos: pos, Client: who, Seq: seq}
}

func nop(who, seq int) api.Op { return api.Op{Kind: api.Nop, Client: who, Seq: seq} }

// bootOf and editOf lay items as layer 6's table says it, by other means than the program's.
func bootOf(epoch int) []byte { return []byte{1, byte(epoch)} }

func editOf(tag int, op api.Op) []byte {
	b := binary.BigEndian.AppendUint16([]byte{2}, uint16(tag))
	b = append(b, byte(op.Kind))
	b = binary.BigEndian.AppendUint16(b, uint16(op.Pos))
	return append(b, op.Ch, byte(op.Client), byte(op.Seq))
}

// recordOf lays payloads on a disk, one behind the other, as layer 3's table says it, by other means than the program's.
func recordOf(payloads ...[]byte) []byte {
	var image []byte
	for _, p := range payloads {
		b := binary.BigEndian.AppendUint16(nil, uint16(len(p)))
		b = binary.BigEndian.AppendUint16(b, uint16(65535-len(p)))
		b = append(b, p...)
		image = append(image, binary.LittleEndian.AppendUint32(b, crc32.ChecksumIEEE(b))...)
	}
	return image
}

// B and E are records, as the chapter writes them.
func B(epoch int) []byte { return recordOf(bootOf(epoch)) }

func E(tag int, op api.Op) []byte { return recordOf(editOf(tag, op)) }

func join(parts ...[]byte) []byte { return slices.Concat(parts...) }

// logA is the log A of the examples.
func logA() []byte { return join(B(1), E(0, ins(0, 'a', 1, 1)), E(0, ins(0, 'b', 2, 1))) }

const dumpA = "boot 1\nins 0 0 97 1 1\nins 0 0 98 2 1\n"

// ofA gives what Look finds in log A.
func ofA() []api.Finding { return []api.Finding{bootAt(0, 1), editAt(10, 1), editAt(27, 2)} }

// bootAt, editAt and noneAt are findings.
func bootAt(at, epoch int) api.Finding {
	return api.Finding{At: at, Size: 10, Kind: api.LBoot, Epoch: epoch}
}

func editAt(at, rev int) api.Finding {
	return api.Finding{At: at, Size: 17, Kind: api.LEdit, Rev: rev}
}

func noneAt(at, size int, why api.Errno) api.Finding {
	return api.Finding{At: at, Size: size, Err: why}
}

// changed gives the bytes with one of them changed.
func changed(b []byte, at int, mask byte) []byte {
	c := bytes.Clone(b)
	c[at] ^= mask
	return c
}

// all is what the calls answer of some bytes.
type all struct {
	found   []api.Finding
	sound   bool
	good    []byte
	lost    int
	salvage []byte
	saved   int
	dump    string
}

func ask(b []byte) all {
	var a all
	a.found = doctor.Look(b)
	a.sound = doctor.Sound(b)
	a.good, a.lost = doctor.Repair(b)
	a.salvage, a.saved = doctor.Salvage(b)
	a.dump = doctor.Dump(b)
	return a
}

func (a all) same(b all) bool {
	return slices.Equal(a.found, b.found) && a.sound == b.sound && bytes.Equal(a.good, b.good) && a.lost == b.lost && bytes.Equal(a.salvage, b.salvage) && a.saved == b.saved && a.dump == b.dump
}

// wantAll tells which of the answers are not those that they must be.
func wantAll(t *testing.T, what string, b []byte, want all) {
	t.Helper()
	got := ask(b)
	if !slices.Equal(got.found, want.found) {
		t.Errorf("P26.2: %s: Look = %s, want %s", what, findingsWord(got.found), findingsWord(want.found))
	}
	if got.sound != want.sound {
		t.Errorf("P26.3: %s: Sound = %t, want %t", what, got.sound, want.sound)
	}
	if !bytes.Equal(got.good, want.good) || got.lost != want.lost {
		t.Errorf("P26.4: %s: Repair = %s, %d, want %s, %d", what, hexWord(got.good), got.lost, hexWord(want.good), want.lost)
	}
	if !bytes.Equal(got.salvage, want.salvage) || got.saved != want.saved {
		t.Errorf("P26.5: %s: Salvage = %s, %d, want %s, %d", what, hexWord(got.salvage), got.saved, hexWord(want.salvage), want.saved)
	}
	if got.dump != want.dump {
		t.Errorf("P26.6: %s: Dump = %q, want %q", what, brief(got.dump), brief(want.dump))
	}
}

// wantLook tells whether Look finds just these.
func wantLook(t *testing.T, what string, b []byte, want ...api.Finding) {
	t.Helper()
	if got := doctor.Look(b); !slices.Equal(got, want) {
		t.Errorf("P26.2: %s: Look = %s, want %s", what, findingsWord(got), findingsWord(want))
	}
}

// wantLoad tells whether Load takes a text and gives these bytes.
func wantLoad(t *testing.T, text string, want []byte) {
	t.Helper()
	if b, err := doctor.Load(text); !bytes.Equal(b, want) || err != nil {
		t.Errorf("P26.7: Load(%q) = %s, %v, want %s", brief(text), hexWord(b), err, hexWord(want))
	}
}

// wantNoLoad tells whether Load refuses a text, there and with that number.
func wantNoLoad(t *testing.T, text string, line int, e api.Errno) {
	t.Helper()
	b, err := doctor.Load(text)
	var f *api.Fault
	if len(b) != 0 || !errors.As(err, &f) || f.At != line || !errors.Is(err, e) || api.Code(err) != e {
		t.Errorf("P26.7: Load(%q) = %s, %v, want nothing, %d at %d", brief(text), hexWord(b), err, e, line)
	}
}

// wantPart tells whether Part answers so, and with its arguments turned round too.
func wantPart(t *testing.T, what string, a, b []byte, n int, part bool) {
	t.Helper()
	if got, whole := doctor.Part(a, b); got != n || whole != part {
		t.Errorf("P26.8: %s: Part = %d, %t, want %d, %t", what, got, whole, n, part)
	}
	if got, whole := doctor.Part(b, a); got != n || whole != part {
		t.Errorf("P26.8: %s, turned round: Part = %d, %t, want %d, %t", what, got, whole, n, part)
	}
}

// opened gives what a book keeps of a disk of those bytes, and its error.
func opened(t *testing.T, b []byte) ([]byte, error) {
	t.Helper()
	d, e := disk.From(b)
	if e != api.OK {
		t.Fatalf("no disk of %d bytes: %d", len(b), e)
	}
	_, err := book.Open(d)
	return d.Bytes(), err
}

// written plays a log of mixed edits by so many clients, with boots between them.
func written(t *testing.T, r *rand.Rand, clients, revs int) []byte {
	t.Helper()
	d := disk.New()
	b, err := book.Open(d)
	if err != nil {
		t.Fatalf("book.Open of a new disk: %v", err)
	}
	b.Boot()
	for tries := 0; b.Revs() < revs && tries < 40*revs; tries++ {
		if r.IntN(12) == 0 {
			b.Boot()
		}
		client := 1 + r.IntN(clients)
		seq, tag := b.Last(client)
		tag = max(tag, b.Revs()-r.IntN(4))
		op := ins(r.IntN(b.Revs()+2), byte(32+r.IntN(95)), client, seq+1)
		if r.IntN(3) == 0 {
			op = del(r.IntN(b.Revs()+1), client, seq+1)
		}
		b.Add(api.Edit{Tag: tag, Op: op})
	}
	return d.Bytes()
}

// records takes a log's bytes apart.
func records(b []byte) [][]byte {
	var list [][]byte
	for len(b) > 0 {
		n := int(binary.BigEndian.Uint16(b)) + 8
		list = append(list, b[:n:n])
		b = b[n:]
	}
	return list
}

// mixed gives bytes that are nearly a log: some records gone, doubled, out of their order, spoilt, cut, some of no item, bytes between them.
func mixed(t *testing.T, r *rand.Rand) []byte {
	t.Helper()
	list := records(written(t, r, 1+r.IntN(4), r.IntN(14)))
	for range r.IntN(4) {
		i := r.IntN(len(list))
		switch r.IntN(7) {
		case 0:
			list[i] = nil
		case 1:
			list = slices.Insert(list, r.IntN(len(list)+1), list[i])
		case 2:
			j := r.IntN(len(list))
			list[i], list[j] = list[j], list[i]
		case 3:
			if len(list[i]) > 0 {
				list[i] = changed(list[i], r.IntN(len(list[i])), byte(1+r.IntN(255)))
			}
		case 4:
			list[i] = list[i][:r.IntN(len(list[i])+1)]
		case 5:
			list = slices.Insert(list, i, nearly(r))
		default:
			list = slices.Insert(list, i, anyBytes(r, 20))
		}
	}
	return join(list...)
}

// nearly gives a whole record whose payload may be an item or not.
func nearly(r *rand.Rand) []byte {
	payload := anyBytes(r, 12)
	switch r.IntN(5) {
	case 0:
		payload = bootOf(r.IntN(5))
	case 1:
		payload = editOf(r.IntN(3), nop(1+r.IntN(4), 1+r.IntN(4)))
	case 2:
		payload = editOf(r.IntN(6), api.Op{Kind: r.IntN(4), Pos: r.IntN(5), Ch: byte(r.IntN(2) * 'x'), Client: r.IntN(5), Seq: r.IntN(5)})
	}
	return recordOf(append(payload, 1)[:max(len(payload), 1)])
}

func anyBytes(r *rand.Rand, most int) []byte {
	b := make([]byte, r.IntN(most+1))
	for i := range b {
		b[i] = byte(r.Uint32() >> r.IntN(32))
	}
	return b
}

// dice gives numbers that look mixed, the same at every run.
func dice(seed int) *rand.Rand { return rand.New(rand.NewPCG(uint64(seed), 26)) }

func findingsWord(list []api.Finding) string {
	var words []string
	for _, f := range list {
		word := "{"
		for _, n := range []int{f.At, f.Size, f.Kind, f.Epoch, f.Rev, int(f.Err)} {
			word += " " + strconv.Itoa(n)
		}
		words = append(words, word+" }")
	}
	return brief("[" + strings.Join(words, " ") + "]")
}

func hexWord(b []byte) string {
	var words []string
	for _, x := range b[:min(len(b), 80)] {
		words = append(words, strconv.FormatInt(int64(x), 16))
	}
	return strconv.Itoa(len(b)) + " bytes [" + strings.Join(words, " ") + "]"
}

// brief gives the beginning of a text, because some are long.
func brief(s string) string { return s[:min(len(s), 400)] }
