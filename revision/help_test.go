package revision_test

import (
	"encoding/binary"
	"hash/crc32"
	"math/rand/v2"
	"reflect"
	"slices"
	"strconv"
	"strings"
	"testing"

	"jotter/api"
	"jotter/book"
	"jotter/disk"
	"jotter/revision"
)

// ins, del and nop make operations, as the chapter writes them: ins(0, 'x', 2, 1) is i0x(2,1).
func ins(pos int, ch byte, who, seq int) api.Op {
	return api.Op{Kind: api.Insert, Pos: pos, Ch: ch, Client: who, Seq: seq}
}

func del(pos, who, seq int) api.Op {
	return api.Op{Kind: api.Delete, Pos: pos, Client: who, Seq: seq}
}

func nop(who, seq int) api.Op { return api.Op{Kind: api.Nop, Client: who, Seq: seq} }

func edit(tag int, op api.Op) api.Edit { return api.Edit{Tag: tag, Op: op} }

// bootOf and editOf lay items as layer 6's table says it, by other means than the program's.
func bootOf(epoch int) []byte { return []byte{1, byte(epoch)} }

func editOf(e api.Edit) []byte {
	b := binary.BigEndian.AppendUint16([]byte{2}, uint16(e.Tag))
	b = append(b, byte(e.Op.Kind))
	b = binary.BigEndian.AppendUint16(b, uint16(e.Op.Pos))
	return append(b, e.Op.Ch, byte(e.Op.Client), byte(e.Op.Seq))
}

// imageOf lays payloads on a disk as layer 3's table says it, by other means than the program's.
func imageOf(payloads ...[]byte) []byte {
	var image []byte
	for _, p := range payloads {
		b := binary.BigEndian.AppendUint16(nil, uint16(len(p)))
		b = binary.BigEndian.AppendUint16(b, uint16(65535-len(p)))
		b = append(b, p...)
		image = append(image, binary.LittleEndian.AppendUint32(b, crc32.ChecksumIEEE(b))...)
	}
	return image
}

// logOf gives the bytes of a log of one boot and these edits.
func logOf(edits ...api.Edit) []byte {
	payloads := [][]byte{bootOf(1)}
	for _, e := range edits {
		payloads = append(payloads, editOf(e))
	}
	return imageOf(payloads...)
}

// exampleEdits gives the edits of layer 12's examples 2 to 6.
func exampleEdits() []api.Edit {
	return []api.Edit{
		edit(0, ins(0, 'a', 1, 1)), edit(0, ins(0, 'b', 2, 1)), edit(0, ins(1, 'c', 1, 2)),
		edit(1, del(0, 2, 2)), edit(1, del(0, 1, 3)), edit(1, ins(1, 'x', 2, 3)),
	}
}

// opened gives the past of bytes that must be a whole log.
func opened(t *testing.T, image []byte) *revision.Past {
	t.Helper()
	p, err := revision.Open(image)
	if p == nil || err != nil {
		t.Fatalf("P18.1: Open of a log of %d bytes: a past %t, the error %v", len(image), p != nil, err)
	}
	return p
}

func example(t *testing.T) *revision.Past {
	t.Helper()
	p := opened(t, logOf(exampleEdits()...))
	if p.Revs() != 6 {
		t.Fatalf("P18.2: the examples' log: Revs = %d, want 6", p.Revs())
	}
	return p
}

// bookOf gives the book of those bytes, on a disk of its own.
func bookOf(t *testing.T, image []byte) (*book.Book, error) {
	t.Helper()
	d, e := disk.From(image)
	if e != api.OK {
		t.Fatalf("no disk of %d bytes: %d", len(image), e)
	}
	return book.Open(d)
}

// written plays a log of mixed edits by so many clients, with boots between them; it ends early if no edit is left. lag: how many records a client may be behind. fade: of ten edits so many are deletions, if there is something to delete.
func written(t *testing.T, r *rand.Rand, clients, revs, lag, fade int) []byte {
	t.Helper()
	d := disk.New()
	b, err := book.Open(d)
	if err != nil {
		t.Fatalf("book.Open of a new disk: %v", err)
	}
	b.Boot()
	size := 0
	for tries := 0; b.Revs() < revs && tries < 40*revs; tries++ {
		if b.Epoch() < api.MaxEpoch && r.IntN(20) == 0 {
			b.Boot()
		}
		client := 1 + r.IntN(clients)
		seq, tag := b.Last(client)
		tag = max(tag, b.Revs()-r.IntN(lag+1))
		op := ins(r.IntN(size+2), byte('a'+r.IntN(26)), client, seq+1)
		if size > 0 && r.IntN(10) < fade {
			op = del(r.IntN(size+1), client, seq+1)
		}
		_, done, e := b.Add(edit(tag, op))
		if e == api.OK && done.Kind == api.Insert {
			size++
		} else if e == api.OK && done.Kind == api.Delete {
			size--
		}
	}
	return d.Bytes()
}

// dice gives numbers that look mixed, the same at every run.
func dice(seed int) *rand.Rand { return rand.New(rand.NewPCG(uint64(seed), 18)) }

// opsWord gives operations as the chapter writes them, with all that is in them.
func opsWord(ops []api.Op) string {
	var all []string
	for _, op := range ops {
		word := "kind " + strconv.Itoa(op.Kind) + " at " + strconv.Itoa(op.Pos) + " of " + strconv.Itoa(int(op.Ch))
		switch {
		case op.Kind == api.Insert:
			word = "i" + strconv.Itoa(op.Pos) + string(rune(op.Ch))
		case op.Kind == api.Delete && op.Ch == 0:
			word = "d" + strconv.Itoa(op.Pos)
		}
		all = append(all, word+"("+strconv.Itoa(op.Client)+","+strconv.Itoa(op.Seq)+")")
	}
	return brief(strings.Join(all, " "))
}

// runsWord gives runs as the chapter writes them.
func runsWord(runs []api.Run) string {
	var all []string
	for _, x := range runs {
		all = append(all, "{"+strconv.Itoa(x.Client)+", "+strconv.Itoa(x.From)+", "+strconv.Itoa(x.To)+"}")
	}
	return brief(strings.Join(all, " "))
}

// brief gives the beginning of a text, because some are long.
func brief(s string) string { return s[:min(len(s), 400)] }

func wantText(t *testing.T, p *revision.Past, rev int, want string) {
	t.Helper()
	if s, e := p.Text(rev); s != want || e != api.OK {
		t.Fatalf("P18.3: Text(%d) = %q, %d, want %q", rev, brief(s), e, brief(want))
	}
}

func wantBlame(t *testing.T, p *revision.Past, rev int, want ...api.Run) {
	t.Helper()
	if runs, e := p.Blame(rev); !slices.Equal(runs, want) || e != api.OK {
		t.Fatalf("P18.4: Blame(%d) = %s, %d, want %s", rev, runsWord(runs), e, runsWord(want))
	}
}

func wantBorn(t *testing.T, p *revision.Past, rev, pos, want int, wrong api.Errno) {
	t.Helper()
	if n, e := p.Born(rev, pos); n != want || e != wrong {
		t.Fatalf("P18.5: Born(%d, %d) = %d, %d, want %d, %d", rev, pos, n, e, want, wrong)
	}
}

func wantDied(t *testing.T, p *revision.Past, rev, want int) {
	t.Helper()
	if n, e := p.Died(rev); n != want || e != api.OK {
		t.Fatalf("P18.6: Died(%d) = %d, %d, want %d", rev, n, e, want)
	}
}

func wantChanges(t *testing.T, p *revision.Past, from, to int, want ...api.Op) {
	t.Helper()
	if ops, e := p.Changes(from, to); !slices.Equal(ops, want) || e != api.OK {
		t.Fatalf("P18.7: Changes(%d, %d) = %s, %d, want %s", from, to, opsWord(ops), e, opsWord(want))
	}
}

func wantTally(t *testing.T, p *revision.Past, client, rev int, want [3]int) {
	t.Helper()
	put, took, stand, e := p.Tally(client, rev)
	if [3]int{put, took, stand} != want || e != api.OK {
		t.Fatalf("P18.8: Tally(%d, %d) = %d, %d, %d, %d, want %v", client, rev, put, took, stand, e, want)
	}
}

// wantNoRevision ends the test unless all calls refuse that revision, whatever else they are given, and answer nothing else.
func wantNoRevision(t *testing.T, p *revision.Past, rev int) {
	t.Helper()
	if s, e := p.Text(rev); s != "" || e != api.ErrPast {
		t.Fatalf("P18.3: Text(%d) = %q, %d, want nothing, ErrPast", rev, s, e)
	}
	if runs, e := p.Blame(rev); len(runs) != 0 || e != api.ErrPast {
		t.Fatalf("P18.4: Blame(%d) = %s, %d, want nothing, ErrPast", rev, runsWord(runs), e)
	}
	for _, pos := range []int{-1, 0, 1, 9} {
		wantBorn(t, p, rev, pos, 0, api.ErrPast)
	}
	wantNotDied(t, p, rev)
	for _, other := range []int{0, p.Revs(), p.Revs() + 1, -1, rev} {
		wantNoChanges(t, p, rev, other)
		wantNoChanges(t, p, other, rev)
	}
	for _, client := range []int{-1, 0, 1, 2, 64, 65, 99} {
		if a, b, c, e := p.Tally(client, rev); [3]int{a, b, c} != [3]int{} || e != api.ErrPast {
			t.Fatalf("P18.8: Tally(%d, %d) = %d, %d, %d, %d, want nothing, ErrPast", client, rev, a, b, c, e)
		}
	}
}

func wantNotDied(t *testing.T, p *revision.Past, rev int) {
	t.Helper()
	if n, e := p.Died(rev); n != 0 || e != api.ErrPast {
		t.Fatalf("P18.6: Died(%d) = %d, %d, want 0, ErrPast", rev, n, e)
	}
}

func wantNoChanges(t *testing.T, p *revision.Past, from, to int) {
	t.Helper()
	if ops, e := p.Changes(from, to); len(ops) != 0 || e != api.ErrPast {
		t.Fatalf("P18.7: Changes(%d, %d) = %s, %d, want nothing, ErrPast", from, to, opsWord(ops), e)
	}
}

// wantError ends the test unless an error is just that one, Fault in Fault.
func wantError(t *testing.T, what string, got, want error) {
	t.Helper()
	if !reflect.DeepEqual(got, want) {
		t.Fatalf("P18.1: %s: the error %v, want %v", what, got, want)
	}
}
