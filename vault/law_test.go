package vault_test

import (
	"bytes"
	"math/rand/v2"
	"slices"
	"sync"
	"testing"

	"jotter/api"
	"jotter/book"
	"jotter/disk"
	"jotter/doc"
	"jotter/snapshot"
	"jotter/vault"
)

// pair is a vault and a book that are given the same.
type pair struct {
	*trio
	bd *disk.Disk
	b  *book.Book
}

func newPair(t *testing.T) *pair {
	t.Helper()
	p := &pair{trio: fresh(t), bd: disk.New()}
	p.openBook(t)
	return p
}

func (p *pair) openBook(t *testing.T) error {
	t.Helper()
	var err error
	p.b, err = book.Open(p.bd)
	return err
}

// same ends the test unless both have come to the same.
func (p *pair) same(t *testing.T, what string) {
	t.Helper()
	text, _ := p.b.Doc(p.b.Revs())
	if p.v.Epoch() != p.b.Epoch() || p.v.Revs() != p.b.Revs() || p.v.Synced() != p.b.Synced() || !slices.Equal(p.v.Doc(), text) {
		t.Fatalf("P27.7: %s: the vault %s, the book Epoch %d, Revs %d, Synced %d, %q", what, p.see(), p.b.Epoch(), p.b.Revs(), p.b.Synced(), doc.Text(text))
	}
	for client := -1; client <= 65; client++ {
		seq, tag := p.v.Last(client)
		if bookSeq, bookTag := p.b.Last(client); seq != bookSeq || tag != bookTag {
			t.Fatalf("P27.7: %s: Last(%d) = %d, %d, the book's is %d, %d", what, client, seq, tag, bookSeq, bookTag)
		}
	}
}

func (p *pair) boot(t *testing.T) {
	t.Helper()
	n, e := p.v.Boot()
	if m, f := p.b.Boot(); n != m || e != f {
		t.Fatalf("P27.7: Boot = %d, %d, the book's is %d, %d", n, e, m, f)
	}
}

func (p *pair) add(t *testing.T, e api.Edit) {
	t.Helper()
	n, op, bad := p.v.Add(e)
	if m, want, worse := p.b.Add(e); n != m || op != want || bad != worse {
		t.Fatalf("P27.7: Add(%s) = %d, %s, %d, the book's is %d, %s, %d", word(e), n, opWord(op), bad, m, opWord(want), worse)
	}
}

func (p *pair) sync(t *testing.T) {
	t.Helper()
	if n, m := p.v.Sync(), p.b.Sync(); n != m {
		t.Fatalf("P27.7: Sync = %d, the book's is %d", n, m)
	}
}

// crash crashes both logs by the same three numbers, and opens both again.
func (p *pair) crash(t *testing.T, r *rand.Rand) {
	t.Helper()
	keep, at, mask := anyCrash(r, p.d[0])
	if e, f := p.d[0].Crash(keep, at, mask), p.bd.Crash(keep, at, mask); e != api.OK || f != api.OK {
		t.Fatalf("P27.7: Crash(%d, %d, %d) = %d, of the book's disk %d: their tails are not alike", keep, at, mask, e, f)
	}
	err, bookErr := p.open(), p.openBook(t)
	if api.Code(err) != api.Code(bookErr) {
		t.Fatalf("P27.7: behind a crash: %v, the book tells %v", err, bookErr)
	}
	if p.v == nil {
		t.Fatalf("P27.7: behind a crash: no vault: %v", err)
	}
}

// anyCrash gives three numbers by which a disk may crash.
func anyCrash(r *rand.Rand, d *disk.Disk) (keep, at, mask int) {
	keep = r.IntN(d.Size() - d.Synced() + 1)
	if keep > 0 && r.IntN(2) == 0 {
		at, mask = r.IntN(keep), 1+r.IntN(255)
	}
	return keep, at, mask
}

// TestItIsTheBook: a vault answers as a book does, through checkpoints and crashes.
func TestItIsTheBook(t *testing.T) {
	checkpoints, crashes := 0, 0
	for seed := range 120 {
		r := dice(100 + seed)
		p := newPair(t)
		clients := 1 + r.IntN(5)
		for range 60 {
			switch r.IntN(20) {
			case 0:
				p.boot(t)
			case 1:
				p.sync(t)
			case 2, 3:
				if p.v.Checkpoint() == api.OK {
					p.b.Sync()
					checkpoints++
				}
			case 4:
				p.crash(t, r)
				crashes++
			default:
				text, _ := p.b.Doc(p.b.Revs())
				p.add(t, anyEdit(r, clients, p.b.Revs(), len(text), p.b.Last))
			}
			p.same(t, "behind a call")
		}
	}
	if checkpoints < 200 || crashes < 100 {
		t.Fatalf("%d checkpoints, %d crashes: they tell too little", checkpoints, crashes)
	}
}

// TestEveryCrashIsTheBooks: each crash of a tail behind a checkpoint, of the log and of a book's disk alike.
func TestEveryCrashIsTheBooks(t *testing.T) {
	made := func() *pair {
		p := newPair(t)
		p.boot(t)
		p.add(t, edit(0, ins(0, 'a', 1, 1)))
		p.check(t)
		p.b.Sync()
		p.add(t, edit(0, ins(0, 'b', 2, 1)))
		p.boot(t)
		p.add(t, edit(1, del(0, 1, 2)))
		return p
	}
	tail := made().d[0].Size() - 12
	for keep := range tail + 1 {
		for at := range keep + 1 {
			for _, mask := range []int{1, 128, 255} {
				if at == keep {
					mask = 0
				}
				p := made()
				p.d[0].Crash(keep, at, mask)
				p.bd.Crash(keep, at, mask)
				if err, bookErr := p.open(), p.openBook(t); api.Code(err) != api.Code(bookErr) {
					t.Fatalf("P27.7: Crash(%d, %d, %d): %v, the book tells %v", keep, at, mask, err, bookErr)
				}
				p.same(t, "behind a crash")
			}
		}
	}
}

// life is a vault ahead of a checkpoint, and what comes behind it.
type life struct {
	what  string
	make  func(t *testing.T) *trio
	later []api.Edit
}

func lives() []life {
	first := func(t *testing.T) *trio { return born(t) }
	second := func(t *testing.T) *trio {
		x := kept(t)
		x.add(t, edit(0, ins(0, 'b', 2, 1)), 2, ins(1, 'b', 2, 1))
		x.v.Sync()
		x.add(t, edit(1, ins(1, 'c', 1, 2)), 3, ins(2, 'c', 1, 2))
		return x
	}
	third := func(t *testing.T) *trio {
		x := twice(t)
		x.boot(t, 2)
		return x
	}
	boots := func(t *testing.T) *trio {
		x := fresh(t)
		x.boot(t, 1)
		x.boot(t, 2)
		return x
	}
	return []life{
		{"the first checkpoint", first, []api.Edit{edit(1, del(0, 2, 1)), edit(0, ins(0, 'z', 3, 1))}},
		{"the second checkpoint", second, []api.Edit{edit(1, ins(0, 'd', 2, 2)), edit(0, ins(0, 'z', 3, 1))}},
		{"a checkpoint of another Epoch", third, []api.Edit{edit(0, ins(0, 'z', 3, 1)), edit(2, del(1, 1, 3))}},
		{"a checkpoint of boots alone", boots, []api.Edit{edit(0, ins(0, 'z', 3, 1))}},
	}
}

// goesOn ends the test unless a vault opened over these disks has all that there was, all of it synced, and goes on as what (with its checkpoint done, or not begun) goes on.
func goesOn(t *testing.T, what string, y *trio, l life, undone, done *trio) {
	t.Helper()
	y.open()
	if y.v == nil {
		t.Fatalf("P27.8: %s: no vault over %s", what, y.disksWord())
	}
	like, word := undone, "as if it had not been begun"
	if y.v.Base() == done.v.Base() && y.d[0].Size() == 12 {
		like, word = done, "as if it had been done"
	}
	want := ask(like.v)
	want.synced = want.revs
	if got := ask(y.v); !got.same(want) {
		t.Fatalf("P27.8: %s, %s: %s, want %s", what, word, got, want)
	}
	ref, _ := like.again(t)
	for i, e := range l.later {
		n, op, bad := y.v.Add(e)
		if m, want, worse := ref.v.Add(e); n != m || op != want || bad != worse || bad != api.OK {
			t.Fatalf("P27.8: %s, %s: Add %d = %d, %s, %d, want %d, %s, %d", what, word, i, n, opWord(op), bad, m, opWord(want), worse)
		}
	}
	n, e := y.v.Boot()
	if m, want := ref.v.Boot(); n != m || e != want {
		t.Fatalf("P27.8: %s, %s: Boot = %d, %d, want %d, %d", what, word, n, e, m, want)
	}
	y.v.Sync()
	ref.v.Sync()
	if got, want := ask(y.v), ask(ref.v); !got.same(want) {
		t.Fatalf("P27.8: %s, %s: it goes on to %s, want %s", what, word, got, want)
	}
	y.check(t)
	ref.check(t)
	if got, want := ask(y.v), ask(ref.v); !got.same(want) || !bytes.Equal(y.d[0].Bytes(), ref.d[0].Bytes()) {
		t.Fatalf("P27.8: %s, %s: behind another checkpoint: %s, want %s", what, word, got, want)
	}
}

// TestInTheMidst breaks a checkpoint off at each of its steps, with each part of the slot's bytes and of the mark, each byte of them garbled or none.
func TestInTheMidst(t *testing.T) {
	for _, l := range lives() {
		undone, done := l.make(t), l.make(t)
		done.check(t)
		slot := 1
		if bytes.Equal(undone.d[1].Bytes(), done.d[1].Bytes()) {
			slot = 2
		}
		image, mark := done.d[slot].Bytes(), done.d[0].Bytes()
		synced := func() *trio {
			y := undone.copied(t)
			y.d[0].Sync()
			return y
		}
		cut := func() *trio {
			y := synced()
			y.d[slot].Cut(0)
			return y
		}
		full := func() *trio {
			y := cut()
			y.d[slot].Append(image)
			y.d[slot].Sync()
			return y
		}
		goesOn(t, l.what+": behind the log's sync", synced(), l, undone, done)
		goesOn(t, l.what+": behind the slot's cut", cut(), l, undone, done)
		goesOn(t, l.what+": behind the slot's sync", full(), l, undone, done)
		everyPart(image, func(part []byte) {
			y := cut()
			y.d[slot].Append(part)
			goesOn(t, l.what+": a part of the slot's bytes", y, l, undone, done)
		})
		everyPart(mark, func(part []byte) {
			y := full()
			y.d[0].Cut(0)
			y.d[0].Append(part)
			goesOn(t, l.what+": a part of the mark", y, l, undone, done)
		})
	}
}

// everyPart gives all beginnings of some bytes, with each byte garbled in some ways, and with none.
func everyPart(b []byte, try func(part []byte)) {
	for n := range len(b) + 1 {
		try(b[:n])
		for at := range n {
			for _, mask := range []byte{1, 16, 128, 255} {
				try(changed(b[:n], at, mask))
			}
		}
	}
}

// TestNoBeginningIsASlot: a beginning of a slot's bytes, one byte of it garbled or none, is not taken for a slot, nor is the whole with one garbled.
func TestNoBeginningIsASlot(t *testing.T) {
	image := slotAt(t, 3, edit(0, ins(0, 'a', 1, 1)), edit(0, ins(0, 'b', 2, 1)))
	everyPart(image, func(part []byte) {
		x, err := over(t, nil, part, nil)
		whole := bytes.Equal(part, image)
		if (x.v.Base() == 2) != whole || (err == nil) != (whole || len(part) == 0) {
			t.Fatalf("P27.8: %s of %d bytes: Base %d, %v", hexWord(part), len(image), x.v.Base(), err)
		}
	})
}

// TestOpenedAgain: whatever lay on the disks, another opening finds the same, and cuts nothing more.
func TestOpenedAgain(t *testing.T) {
	r := dice(9)
	tried := 0
	for range 3000 {
		b := mixedDisks(t, r)
		x := &trio{}
		for i := range b {
			x.d[i] = diskOf(t, b[i], r.IntN(len(b[i])+1))
		}
		x.open()
		if x.v == nil {
			continue
		}
		tried++
		was := x.see()
		y, err := x.again(t)
		if got := y.see(); !got.same(was) {
			t.Fatalf("P27.9: opened again: %s, want %s", got, was)
		}
		if p := api.Place(err); err != nil && (p < 1 || p > 2 || !bytes.Equal(y.d[0].Bytes(), was.bytes[0])) {
			t.Fatalf("P27.9: opened again: %v over %s", err, x.disksWord())
		}
		z, _ := over(t, was.bytes[0], was.bytes[1], was.bytes[2])
		want := was.answers
		want.synced = want.revs
		if got := ask(z.v); !got.same(want) || !bytes.Equal(z.d[0].Bytes(), was.bytes[0]) {
			t.Fatalf("P27.9: opened over synced copies: %s, want %s", got, want)
		}
	}
	if tried < 1000 {
		t.Fatalf("%d vaults: they tell too little", tried)
	}
}

// TestSyncedIsNeverLost: behind crashes of all three disks at any time there are at least as many records as were synced, and they are the first of those that there were.
func TestSyncedIsNeverLost(t *testing.T) {
	r := dice(10)
	lost := 0
	for range 150 {
		x := fresh(t)
		var edits []api.Edit
		for range 80 {
			switch r.IntN(12) {
			case 0:
				x.v.Boot()
			case 1:
				x.v.Sync()
			case 2:
				x.v.Checkpoint()
			case 3:
				was := len(edits)
				edits = crashAll(t, r, x, edits)
				if len(edits) < was {
					lost++
				}
			default:
				was := x.v.Revs()
				e := anyEdit(r, 3, was, len(x.v.Doc()), x.v.Last)
				if _, _, bad := x.v.Add(e); bad == api.OK {
					edits = append(edits, e)
				}
			}
		}
	}
	if lost < 20 {
		t.Fatalf("%d crashes lost a record: they tell too little", lost)
	}
}

// crashAll crashes all three disks, opens another vault over them, and gives the edits that it has.
func crashAll(t *testing.T, r *rand.Rand, x *trio, edits []api.Edit) []api.Edit {
	t.Helper()
	synced := x.v.Synced()
	for _, d := range x.d {
		keep, at, mask := anyCrash(r, d)
		if e := d.Crash(keep, at, mask); e != api.OK {
			t.Fatalf("disk.Crash(%d, %d, %d) = %d", keep, at, mask, e)
		}
	}
	err := x.open()
	if x.v == nil || x.v.Revs() < synced || x.v.Revs() > len(edits) || x.v.Synced() != x.v.Revs() {
		t.Fatalf("P27.10: behind crashes: a vault %t, %v; %d records were synced", x.v != nil, err, synced)
	}
	edits = edits[:x.v.Revs()]
	s, err := snapshot.Of(edits)
	if err != nil || !slices.Equal(s.Doc(), x.v.Doc()) {
		t.Fatalf("P27.10: behind crashes: %s, the first %d edits make %q, %v", x.see(), len(edits), doc.Text(s.Doc()), err)
	}
	for client := range 5 {
		seq, tag := x.v.Last(client)
		if wantSeq, wantTag := s.Last(client); seq != wantSeq || tag != wantTag {
			t.Fatalf("P27.10: behind crashes: Last(%d) = %d, %d, want %d, %d", client, seq, tag, wantSeq, wantTag)
		}
	}
	return edits
}

// TestAnswersAreNewMemory: what is written into an answered text is not seen by any later call, nor what is appended to it.
func TestAnswersAreNewMemory(t *testing.T) {
	x := twice(t)
	was := x.see()
	for range 2 {
		text := x.v.Doc()
		text = append(text[:1], api.Elem{Ch: 'X'})
		clear(text[:cap(text)])
		wantSeen(t, "P27.11: a text that was written into", x.see(), was)
	}
	x.add(t, edit(2, del(0, 2, 1)), 3, del(0, 2, 1))
	before, after := x.v.Doc(), x.v.Doc()
	before[0].Ch = '!'
	if doc.Text(after) != "b" || doc.Text(x.v.Doc()) != "b" {
		t.Errorf("P27.11: two answers share memory: %q, %q", doc.Text(after), doc.Text(x.v.Doc()))
	}
}

// TestSideBySide: vaults over disks of their own, used at one time, answer as if each were alone.
func TestSideBySide(t *testing.T) {
	play := func(seed int) []seen {
		r := dice(seed)
		x := &trio{d: [3]*disk.Disk{disk.New(), disk.New(), disk.New()}}
		x.v, _ = vault.Open(x.d[0], x.d[1], x.d[2])
		var list []seen
		for range 60 {
			switch r.IntN(6) {
			case 0:
				x.v.Boot()
			case 1:
				x.v.Checkpoint()
			default:
				x.v.Add(anyEdit(r, 3, x.v.Revs(), len(x.v.Doc()), x.v.Last))
			}
			list = append(list, x.see())
		}
		return list
	}
	same := func(a, b []seen) bool { return slices.EqualFunc(a, b, seen.same) }
	var got [8][]seen
	var wg sync.WaitGroup
	for i := range got {
		wg.Go(func() { got[i] = play(i % 3) })
	}
	wg.Wait()
	for i := range got {
		if !same(got[i], play(i%3)) {
			t.Fatal("P0.1: side by side it answers otherwise")
		}
	}
}
