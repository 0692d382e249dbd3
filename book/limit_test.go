package book_test

import (
	"bytes"
	"slices"
	"testing"

	"jotter/api"
	"jotter/book"
	"jotter/disk"
	"jotter/doc"
)

// wantFull ends the test unless a book has all the edits that can be, takes no more, has room for all boots, and is opened again as it is.
func wantFull(t *testing.T, b *book.Book, d *disk.Disk) {
	t.Helper()
	if synced := b.Synced(); b.Revs() != api.MaxLog || b.Sync() != api.MaxLog-synced || b.Synced() != api.MaxLog {
		t.Fatalf("P12.4: Revs %d, Synced %d and then %d, want 4096", b.Revs(), synced, b.Synced())
	}
	wantOnce(t, b)
	for _, id := range []int{1, 2, 63, 64} {
		for _, c := range []struct {
			seq  int
			want api.Errno
		}{{1, api.ErrDone}, {64, api.ErrDone}, {65, api.ErrWho}} {
			for _, tag := range []int{0, 4095, 4096, 4097} {
				if e := b.Check(edit(tag, ins(0, 'x', id, c.seq))); e != c.want {
					t.Fatalf("P12.1: Check of client %d's edit %d in a full log: %d, want %d", id, c.seq, e, c.want)
				}
			}
		}
	}
	for b.Epoch() < api.MaxEpoch {
		wantBoot(t, b, b.Epoch()+1)
	}
	if d.Size() != 72182 {
		t.Fatalf("P12.2: the disk has %d bytes, want 72182", d.Size())
	}
	again, err := open(t, diskOf(t, d.Bytes(), d.Synced()))
	wantError(t, "P12.8: a full log", err, nil)
	wantSeen(t, "P12.8: a full log", see(again, d), see(b, d))
	done, text, err := book.Replay(b.Edits())
	wantError(t, "P12.7: a full log", err, nil)
	want, _ := b.Doc(api.MaxLog)
	if !slices.Equal(done, see(b, d).done) || !doc.Equal(text, want) {
		t.Fatalf("P12.7: Replay of a full log is not the book")
	}
}

// addFast adds an edit that must be taken, to the book alone: the model would be slow here.
func addFast(t *testing.T, b *book.Book, e api.Edit) api.Op {
	t.Helper()
	rev, op, bad := b.Add(e)
	if bad != api.OK || rev != b.Revs() {
		t.Fatalf("P12.2: Add(%s) = %d, %d", word(e), rev, bad)
	}
	return op
}

// TestNobodyHasSeenAnything: all clients make all their edits at their own text alone, and the log mixes them. The text is full at the end.
func TestNobodyHasSeenAnything(t *testing.T) {
	b, d := booted(t)
	for seq := 1; seq <= api.MaxEdits; seq++ {
		for id := 1; id <= api.MaxClients; id++ {
			if id%8 == seq%8 {
				wantEnd(t, b, 0, id, seq, seq-1)
			}
			addFast(t, b, edit(0, ins(seq-1, 'a'+byte(id%26), id, seq)))
		}
	}
	text, _ := b.Doc(api.MaxLog)
	if len(text) != api.MaxDoc {
		t.Fatalf("P12.5: a text of %d, want 4096", len(text))
	}
	// The first edits of all clients meet at one place: they stand in the log's order.
	for id := 2; id <= api.MaxClients; id++ {
		if doc.Find(text, id-1, 1) > doc.Find(text, id, 1) {
			t.Fatalf("P12.10: client %d's first character stands right of client %d's", id-1, id)
		}
	}
	wantFull(t, b, d)
}

// wantEnd ends the test unless the client's text at that tag has that length.
func wantEnd(t *testing.T, b *book.Book, tag, id, seq, length int) {
	t.Helper()
	if e := b.Check(edit(tag, ins(length+1, 'x', id, seq))); e != api.ErrPlace {
		t.Fatalf("P12.1: client %d at tag %d: one beyond its text of %d: %d, want ErrPlace", id, tag, length, e)
	}
	if e := b.Check(edit(tag, del(length, id, seq))); e != api.ErrPlace {
		t.Fatalf("P12.1: client %d at tag %d: nothing is at its end %d: %d, want ErrPlace", id, tag, length, e)
	}
	if e := b.Check(edit(tag, ins(length, 'x', id, seq))); e != api.OK {
		t.Fatalf("P12.1: client %d at tag %d: at its end %d: %d, want OK", id, tag, length, e)
	}
}

// TestEverybodyHasSeenEverything: each edit is made at the log's text.
func TestEverybodyHasSeenEverything(t *testing.T) {
	b, d := booted(t)
	for rev := range api.MaxLog {
		if rev < api.MaxDoc-1 { // one beyond that is no place of any text
			wantEnd(t, b, rev, 1+rev%64, 1+rev/64, rev)
		}
		e := edit(rev, ins(rev, 'a'+byte(rev%26), 1+rev%64, 1+rev/64))
		if op := addFast(t, b, e); op != e.Op {
			t.Fatalf("P12.10: %s was done as %s", word(e), opWord(op))
		}
		if rev == api.MaxLog-2 && b.Sync() != api.MaxLog-1 {
			t.Fatalf("P12.4: Synced %d, want 4095", b.Synced())
		}
	}
	wantFull(t, b, d)
}

// TestOneSpeaksLate: a client that says its first word when the log is nearly full, at each tag's own text.
func TestOneSpeaksLate(t *testing.T) {
	b, _ := booted(t)
	r, length, lengths := dice(5), 0, []int{0}
	for rev := range api.MaxLog - api.MaxEdits {
		op := ins(r.IntN(length+1), 'a', 1+rev%63, 1+rev/63)
		if length > 20 && r.IntN(2) == 0 {
			op = del(r.IntN(length), op.Client, op.Seq)
		}
		addFast(t, b, edit(rev, op))
		length += 3 - 2*op.Kind
		lengths = append(lengths, length)
	}
	for seq, tag := range []int{0, 0, 1, 2, 500, 500, 2000, 4031, 4032} {
		n := lengths[tag] + seq // its own, all inserts
		wantEnd(t, b, tag, 64, seq+1, n)
		addFast(t, b, edit(tag, ins(n, 'z', 64, seq+1)))
	}
	wantOnce(t, b)
}

// spoil writes over a list where it lies, and over its spare room: as far as an append could.
func spoil[T any](list []T, wrong T) {
	list = list[:cap(list)]
	for i := range list {
		list[i] = wrong
	}
}

// TestAnswersAreNewMemory: what is written into an answer, or put behind it, changes no later answer.
func TestAnswersAreNewMemory(t *testing.T) {
	for revs := range 4 {
		p := newPair(t)
		p.boot(t)
		for n := range revs {
			p.add(t, edit(n, ins(0, 'a', 1, n+1)))
		}
		for n := range 4 {
			for k := range p.b.Revs() + 1 {
				text, _ := p.b.Doc(k)
				spoil(text, api.Elem{Ch: '?', Client: 9, Seq: 9})
			}
			spoil(p.b.Edits(), api.Edit{Tag: 9})
			p.wantSame(t, "P0.2")
			p.add(t, edit(p.b.Revs(), ins(1-min(1, n), 'b', 2, n+1)))
			p.wantSame(t, "P0.2: going on")
		}
	}
}

// TestReplayMemory: its argument stays as it is, its spare room too, and its answers are new.
func TestReplayMemory(t *testing.T) {
	b, _ := example(t, 6)
	room := append(make([]api.Edit, 0, 20), b.Edits()...)
	kept := slices.Clone(room[:cap(room)])
	for range 3 {
		done, text, err := book.Replay(room)
		if err != nil || doc.Text(text) != "bcx" || len(done) != 6 || !slices.Equal(room[:cap(room)], kept) {
			t.Fatalf("P0.2: Replay = %v, %q, %v", done, doc.Text(text), err)
		}
		spoil(done, api.Op{Kind: 9})
		spoil(text, api.Elem{Ch: '?', Client: 9, Seq: 9})
	}
	done, _, _ := book.Replay(room)
	want := slices.Clone(done)
	spoil(room, api.Edit{Tag: 9})
	if !slices.Equal(done, want) {
		t.Errorf("P0.2: what Replay answered hangs on its argument's memory")
	}
}

// TestDiskMemory: what Bytes of the disk gives is not the book's.
func TestDiskMemory(t *testing.T) {
	b, d := example(t, 5)
	before := see(b, d)
	clear(d.Bytes())
	wantSeen(t, "P0.2", see(b, d), before)
	image := bytes.Clone(before.bytes)
	b, _ = open(t, diskOf(t, image, len(image)))
	clear(image)
	wantAdd(t, b, edit(1, ins(1, 'x', 2, 3)), 6, ins(2, 'x', 2, 3), "bcx")
}

// TestMixedFullLog: all clients make their last edit, at tags that lag behind by any number.
func TestMixedFullLog(t *testing.T) {
	r := dice(3)
	b, d := booted(t)
	var left []int
	for id := 1; id <= api.MaxClients; id++ {
		left = append(left, id)
	}
	for len(left) > 0 {
		i := r.IntN(len(left))
		id := left[i]
		seq, least := b.Last(id)
		tag := least + r.IntN(b.Revs()-least+1)
		e := edit(tag, ins(0, 'a', id, seq+1))
		if other := edit(tag, del(0, id, seq+1)); r.IntN(3) == 0 && b.Check(other) == api.OK {
			e = other
		}
		addFast(t, b, e)
		if seq+1 == api.MaxEdits {
			left = slices.Delete(left, i, i+1)
		}
	}
	wantFull(t, b, d)
}
