package book_test

import (
	"bytes"
	"encoding/binary"
	"hash/crc32"
	"math/rand/v2"
	"reflect"
	"slices"
	"strconv"
	"strings"
	"testing"

	"jotter/api"
	"jotter/book"
	"jotter/disk"
	"jotter/doc"
)

// ins, del and nop make operations of an edit, as the chapter writes them: ins(0, 'x', 2, 1) is i0x(2,1).
func ins(pos int, ch byte, who, seq int) api.Op {
	return api.Op{Kind: api.Insert, Pos: pos, Ch: ch, Client: who, Seq: seq}
}

func del(pos, who, seq int) api.Op {
	return api.Op{Kind: api.Delete, Pos: pos, Client: who, Seq: seq}
}

func nop(who, seq int) api.Op { return api.Op{Kind: api.Nop, Client: who, Seq: seq} }

func edit(tag int, op api.Op) api.Edit { return api.Edit{Tag: tag, Op: op} }

func boot(epoch int) api.Item { return api.Item{Kind: api.LBoot, Epoch: epoch} }

func itemOf(e api.Edit) api.Item { return api.Item{Kind: api.LEdit, Tag: e.Tag, Op: e.Op} }

// payloadOf lays an item as layer 6's table says it, by other means than the program's.
func payloadOf(x api.Item) []byte {
	if x.Kind == api.LBoot {
		return []byte{1, byte(x.Epoch)}
	}
	b := binary.BigEndian.AppendUint16([]byte{2}, uint16(x.Tag))
	b = append(b, byte(x.Op.Kind))
	b = binary.BigEndian.AppendUint16(b, uint16(x.Op.Pos))
	return append(b, x.Op.Ch, byte(x.Op.Client), byte(x.Op.Seq))
}

// imageOf lays payloads on a disk as layer 3's table says it, by other means than the program's.
func imageOf(payloads ...[]byte) []byte {
	var image []byte
	for _, p := range payloads {
		b := binary.BigEndian.AppendUint16(nil, uint16(len(p)))
		b = binary.BigEndian.AppendUint16(b, uint16(65535-len(p)))
		b = append(b, p...)
		image = append(image, binary.LittleEndian.AppendUint32(b, crc32.ChecksumIEEE(b))...)
	}
	return image
}

func imageOfItems(items ...api.Item) []byte {
	var payloads [][]byte
	for _, x := range items {
		payloads = append(payloads, payloadOf(x))
	}
	return imageOf(payloads...)
}

// diskOf gives a disk with these bytes, the first so many of them synced.
func diskOf(t *testing.T, image []byte, synced int) *disk.Disk {
	t.Helper()
	d, e := disk.From(image[:synced])
	if e != api.OK || d.Append(image[synced:]) != api.OK {
		t.Fatalf("no disk of %d bytes", len(image))
	}
	return d
}

// open gives the book of a disk, which must be there in every case.
func open(t *testing.T, d *disk.Disk) (*book.Book, error) {
	t.Helper()
	b, err := book.Open(d)
	if b == nil {
		t.Fatalf("P12.6: Open gives no book, %v", err)
	}
	return b, err
}

// fresh gives a book on a new disk.
func fresh(t *testing.T) (*book.Book, *disk.Disk) {
	t.Helper()
	d := disk.New()
	b, err := open(t, d)
	if err != nil {
		t.Fatalf("P12.6: Open of a new disk: %v", err)
	}
	return b, d
}

// booted gives a book of epoch 1 on a new disk.
func booted(t *testing.T) (*book.Book, *disk.Disk) {
	t.Helper()
	b, d := fresh(t)
	wantBoot(t, b, 1)
	return b, d
}

// example gives the book as it is behind that example of the chapter, 2 to 6.
func example(t *testing.T, number int) (*book.Book, *disk.Disk) {
	t.Helper()
	b, d := booted(t)
	steps := []struct {
		example int
		edit    api.Edit
		done    api.Op
		text    string
	}{
		{2, edit(0, ins(0, 'a', 1, 1)), ins(0, 'a', 1, 1), "a"},
		{2, edit(0, ins(0, 'b', 2, 1)), ins(1, 'b', 2, 1), "ab"},
		{3, edit(0, ins(1, 'c', 1, 2)), ins(2, 'c', 1, 2), "abc"},
		{4, edit(1, del(0, 2, 2)), del(0, 2, 2), "bc"},
		{5, edit(1, del(0, 1, 3)), nop(1, 3), "bc"},
		{6, edit(1, ins(1, 'x', 2, 3)), ins(2, 'x', 2, 3), "bcx"},
	}
	for _, s := range steps {
		if s.example <= number {
			wantAdd(t, b, s.edit, b.Revs()+1, s.done, s.text)
		}
	}
	return b, d
}

// wantBoot ends the test unless the next boot is of that epoch.
func wantBoot(t *testing.T, b *book.Book, epoch int) {
	t.Helper()
	if n, e := b.Boot(); n != epoch || e != api.OK || b.Epoch() != epoch {
		t.Fatalf("P12.3: Boot = %d, %d, Epoch %d, want %d", n, e, b.Epoch(), epoch)
	}
}

// wantAdd ends the test unless the edit is taken as that record, done so, and makes that text.
func wantAdd(t *testing.T, b *book.Book, e api.Edit, rev int, done api.Op, text string) {
	t.Helper()
	if bad := b.Check(e); bad != api.OK {
		t.Fatalf("P12.1: Check(%s) = %d, want OK", word(e), bad)
	}
	n, op, bad := b.Add(e)
	if n != rev || op != done || bad != api.OK {
		t.Fatalf("P12.2: Add(%s) = %d, %s, %d, want %d, %s", word(e), n, opWord(op), bad, rev, opWord(done))
	}
	if got, bad := b.Doc(rev); doc.Text(got) != text || bad != api.OK {
		t.Fatalf("P12.5: Doc(%d) = %q, %d, want %q", rev, doc.Text(got), bad, text)
	}
}

// wantRefused ends the test unless Check and Add refuse the edit with that error, and nothing changes by that.
func wantRefused(t *testing.T, what string, b *book.Book, d *disk.Disk, e api.Edit, want api.Errno) {
	t.Helper()
	before := see(b, d)
	if got := b.Check(e); got != want {
		t.Fatalf("P12.1: %s: Check(%s) = %d, want %d", what, word(e), got, want)
	}
	if n, op, got := b.Add(e); n != 0 || op != (api.Op{}) || got != want {
		t.Fatalf("P12.2: %s: Add(%s) = %d, %s, %d, want 0, nothing, %d", what, word(e), n, opWord(op), got, want)
	}
	wantSeen(t, "P12.2: "+what+": refused", see(b, d), before)
}

// seen is all that a book and its disk tell without a change.
type seen struct {
	epoch, revs, synced int
	lasts               [api.MaxClients][2]int
	edits               []api.Edit
	done                []api.Op
	texts               []string
	bytes               []byte
	firm                int
}

func see(b *book.Book, d *disk.Disk) seen {
	s := seen{epoch: b.Epoch(), revs: b.Revs(), synced: b.Synced(), edits: b.Edits(), bytes: d.Bytes(), firm: d.Synced()}
	for i := range s.lasts {
		s.lasts[i][0], s.lasts[i][1] = b.Last(i + 1)
	}
	for rev := 1; rev <= s.revs; rev++ {
		op, _ := b.Done(rev)
		s.done = append(s.done, op)
	}
	for _, revs := range []int{s.revs, s.revs / 2, s.synced} {
		text, _ := b.Doc(revs)
		s.texts = append(s.texts, textWord(text))
	}
	return s
}

func (s seen) String() string {
	return "Epoch " + strconv.Itoa(s.epoch) + ", Revs " + strconv.Itoa(s.revs) + ", Synced " + strconv.Itoa(s.synced) +
		", the disk " + strconv.Itoa(len(s.bytes)) + " bytes, synced " + strconv.Itoa(s.firm) + ", " + words(s.edits) + " " + strings.Join(s.texts, " ")
}

func wantSeen(t *testing.T, what string, got, want seen) {
	t.Helper()
	if got.epoch != want.epoch || got.revs != want.revs || got.synced != want.synced || got.lasts != want.lasts || got.firm != want.firm ||
		!slices.Equal(got.edits, want.edits) || !slices.Equal(got.done, want.done) || !slices.Equal(got.texts, want.texts) || !bytes.Equal(got.bytes, want.bytes) {
		t.Fatalf("%s: %s, want %s", what, got, want)
	}
}

// wantError ends the test unless an error is just that one, Fault in Fault.
func wantError(t *testing.T, what string, got, want error) {
	t.Helper()
	if !reflect.DeepEqual(got, want) {
		t.Fatalf("%s: the error %v, want %v", what, got, want)
	}
	if api.Code(got) != api.Code(want) || api.Place(got) != api.Place(want) {
		t.Fatalf("%s: the error's number %d and place %d, want %d and %d", what, api.Code(got), api.Place(got), api.Code(want), api.Place(want))
	}
}

// opWord gives an operation as the chapter writes it.
func opWord(op api.Op) string {
	who := "(" + strconv.Itoa(op.Client) + "," + strconv.Itoa(op.Seq) + ")"
	switch op.Kind {
	case api.Insert:
		return "i" + strconv.Itoa(op.Pos) + strconv.Quote(string(rune(op.Ch))) + who
	case api.Delete:
		return "d" + strconv.Itoa(op.Pos) + who
	case api.Nop:
		return "n" + who
	}
	return "kind " + strconv.Itoa(op.Kind) + who
}

func word(e api.Edit) string { return strconv.Itoa(e.Tag) + ":" + opWord(e.Op) }

func words(list []api.Edit) string {
	all := make([]string, len(list))
	for i, e := range list {
		all[i] = word(e)
	}
	return brief("[" + strings.Join(all, " ") + "]")
}

// textWord gives a text with the makers of its characters.
func textWord(text []api.Elem) string {
	var b strings.Builder
	for _, x := range text {
		b.WriteString(string(rune(x.Ch)) + strconv.Itoa(x.Client) + "." + strconv.Itoa(x.Seq) + " ")
	}
	return b.String()
}

// brief gives the beginning of a text, because some are long.
func brief(s string) string { return s[:min(len(s), 400)] }

// dice gives numbers that look mixed, the same at every run.
func dice(seed int) *rand.Rand { return rand.New(rand.NewPCG(uint64(seed), 12)) }
