package book_test

import (
	"math"
	"slices"
	"testing"

	"jotter/api"
	"jotter/book"
	"jotter/disk"
	"jotter/doc"
)

// The chapter's examples 1 to 5: wantAdd in example tells each step.
func TestExamplesOfAdd(t *testing.T) {
	b, d := fresh(t)
	wantRefused(t, "example 1", b, d, edit(0, ins(0, 'a', 1, 1)), api.ErrUnborn)
	wantBoot(t, b, 1)
	if d.Size() != 10 || d.Synced() != 0 {
		t.Errorf("P12.3: example 1: the disk has %d bytes, %d synced, want 10, 0", d.Size(), d.Synced())
	}
	b, d = example(t, 2)
	if d.Size() != 44 || d.Synced() != 0 {
		t.Errorf("P12.2: example 2: the disk has %d bytes, %d synced, want 44, 0", d.Size(), d.Synced())
	}
	for revs, want := range []string{"", "a", "ab"} {
		if got, e := b.Doc(revs); doc.Text(got) != want || e != api.OK {
			t.Errorf("P12.5: example 2: Doc(%d) = %q, %d, want %q", revs, doc.Text(got), e, want)
		}
	}
	b, _ = example(t, 5)
	for _, c := range [][3]int{{1, 3, 1}, {2, 2, 1}, {3, 0, 0}, {0, 0, 0}} {
		if seq, tag := b.Last(c[0]); seq != c[1] || tag != c[2] {
			t.Errorf("P12.4: example 5: Last(%d) = %d, %d, want %d, %d", c[0], seq, tag, c[1], c[2])
		}
	}
}

func TestExamplesOfCheck(t *testing.T) {
	b, d := example(t, 5)
	for _, c := range []struct {
		e    api.Edit
		want api.Errno
	}{
		{edit(5, ins(0, 'x', 1, 3)), api.ErrDone},
		{edit(5, ins(0, 'x', 1, 5)), api.ErrTurn},
		{edit(0, ins(0, 'x', 2, 3)), api.ErrTag},
		{edit(6, ins(0, 'x', 2, 3)), api.ErrTag},
		{edit(1, ins(2, 'x', 2, 3)), api.ErrPlace},
		{edit(0, nop(1, 4)), api.ErrNoEdit},
		{edit(0, api.Op{Kind: 9}), api.ErrOpKind},
	} {
		wantRefused(t, "examples 6 and 7", b, d, c.e, c.want)
	}
	b, _ = example(t, 6)
	for _, rev := range []int{0, 7, -1, math.MinInt, math.MaxInt} {
		if got, e := b.Edit(rev); got != (api.Edit{}) || e != api.ErrNoRev {
			t.Errorf("P12.5: Edit(%d) = %s, %d, want nothing, ErrNoRev", rev, word(got), e)
		}
		if got, e := b.Done(rev); got != (api.Op{}) || e != api.ErrNoRev {
			t.Errorf("P12.5: Done(%d) = %s, %d, want nothing, ErrNoRev", rev, opWord(got), e)
		}
	}
	for _, revs := range []int{7, -1, math.MinInt, math.MaxInt} {
		if got, e := b.Doc(revs); got != nil || e != api.ErrNoRev {
			t.Errorf("P12.5: Doc(%d) = %v, %d, want nil, ErrNoRev", revs, got, e)
		}
	}
}

func TestExampleOfACrash(t *testing.T) {
	b, d := example(t, 2)
	if n := b.Sync(); n != 2 {
		t.Errorf("P12.4: Sync = %d, want 2", n)
	}
	wantAdd(t, b, edit(0, ins(1, 'c', 1, 2)), 3, ins(2, 'c', 1, 2), "abc")
	if e := d.Crash(9, 0, 0); e != api.OK {
		t.Fatalf("disk.Crash = %d", e)
	}
	b, err := open(t, d)
	wantError(t, "P12.6: example 8", err, api.Wrap(44, api.ErrTorn))
	if b.Revs() != 2 || b.Epoch() != 1 || d.Size() != 44 {
		t.Errorf("P12.6: example 8: %s", see(b, d))
	}
	wantBoot(t, b, 2)
}

// TestCheckLooksInOrder gives edits all of whose faults from the i-th on apply: the first of them must be told.
func TestCheckLooksInOrder(t *testing.T) {
	b, d := example(t, 5)
	unborn, e := fresh(t)
	for _, c := range []struct {
		e    api.Edit
		want api.Errno
	}{
		{edit(99, api.Op{Kind: 3, Pos: -1, Ch: 1, Client: 65, Seq: 65}), api.ErrOpKind},
		{edit(99, api.Op{Kind: -1, Pos: -1, Ch: 1, Client: 1, Seq: 1}), api.ErrOpKind},
		{edit(99, api.Op{Kind: api.Nop, Pos: -1, Ch: 1, Client: 0, Seq: 1}), api.ErrWho},
		{edit(99, api.Op{Kind: api.Insert, Pos: -1, Ch: 1, Client: 1, Seq: 65}), api.ErrWho},
		{edit(99, api.Op{Kind: api.Nop, Pos: 1, Ch: 1, Client: 1, Seq: 1}), api.ErrCh},
		{edit(99, api.Op{Kind: api.Delete, Pos: 4096, Ch: 'a', Client: 1, Seq: 9}), api.ErrCh},
		{edit(99, api.Op{Kind: api.Nop, Pos: 1, Client: 1, Seq: 1}), api.ErrPos},
		{edit(99, ins(4096, 'a', 1, 1)), api.ErrPos},
		{edit(99, nop(1, 1)), api.ErrNoEdit},
		{edit(-9, nop(1, 9)), api.ErrNoEdit},
		{edit(99, ins(4095, 'a', 1, 3)), api.ErrDone},
		{edit(-9, del(4095, 1, 1)), api.ErrDone},
		{edit(99, ins(4095, 'a', 1, 5)), api.ErrTurn},
		{edit(-9, del(4095, 3, 2)), api.ErrTurn},
		{edit(99, ins(4095, 'a', 1, 4)), api.ErrTag},
		{edit(0, del(4095, 2, 3)), api.ErrTag},
		{edit(-1, del(4095, 3, 1)), api.ErrTag},
		{edit(5, ins(4095, 'a', 1, 4)), api.ErrPlace},
		{edit(5, del(4095, 3, 1)), api.ErrPlace},
	} {
		wantRefused(t, "its first fault", b, d, c.e, c.want)
		wantRefused(t, "ahead of any boot", unborn, e, c.e, api.ErrUnborn)
	}
}

// TestCheckSeesTheClientsText: the places that are taken end with the client's own text, whatever the log's text is.
func TestCheckSeesTheClientsText(t *testing.T) {
	for _, c := range []struct{ tag, client, seq, length int }{
		{1, 1, 4, 1}, // "c": record 1 and its own c, less a, which it deleted
		{2, 1, 4, 2}, // "bc"
		{3, 1, 4, 2}, {4, 1, 4, 2}, {5, 1, 4, 2},
		{1, 2, 3, 1}, // "b"
		{2, 2, 3, 1},
		{3, 2, 3, 2}, // "bc"
		{4, 2, 3, 2}, {5, 2, 3, 2},
		{0, 3, 1, 0}, {1, 3, 1, 1}, {2, 3, 1, 2}, {3, 3, 1, 3}, {4, 3, 1, 2}, {5, 3, 1, 2}, // it has the log's text
	} {
		b, d := example(t, 5)
		wantRefused(t, "beyond the text", b, d, edit(c.tag, ins(c.length+1, 'x', c.client, c.seq)), api.ErrPlace)
		wantRefused(t, "nothing is there", b, d, edit(c.tag, del(c.length, c.client, c.seq)), api.ErrPlace)
		for pos := range c.length {
			if e := b.Check(edit(c.tag, del(pos, c.client, c.seq))); e != api.OK {
				t.Errorf("P12.1: tag %d, client %d: Check(d%d) = %d, want OK", c.tag, c.client, pos, e)
			}
		}
		for pos := range c.length + 1 {
			if e := b.Check(edit(c.tag, ins(pos, 'x', c.client, c.seq))); e != api.OK {
				t.Errorf("P12.1: tag %d, client %d: Check(i%d) = %d, want OK", c.tag, c.client, pos, e)
			}
		}
	}
}

// TestCheckChangesNothing: a book that was asked much answers as one that was not.
func TestCheckChangesNothing(t *testing.T) {
	r := dice(1)
	asked, quiet := played(t, dice(7), 3, 30), played(t, dice(7), 3, 30)
	for range 40 {
		before := see(asked.b, asked.d)
		for range 20 {
			asked.b.Check(asked.nearEdit(r, 4))
			if e, ok := asked.goodEdit(r, 4); ok && asked.b.Check(e) != api.OK {
				t.Fatalf("P12.1: %s is refused", word(e))
			}
		}
		wantSeen(t, "P12.1: Check changes something", see(asked.b, asked.d), before)
		if e, ok := asked.goodEdit(r, 4); ok {
			asked.add(t, e)
			quiet.add(t, e)
		}
		wantSeen(t, "P12.1: Check changes what comes later", see(asked.b, asked.d), see(quiet.b, quiet.d))
	}
}

// TestRefusedEditsChangeNothing: they change no later answer either.
func TestRefusedEditsChangeNothing(t *testing.T) {
	r, refused := dice(2), 0
	for seed := range 20 {
		p, quiet := played(t, dice(seed), 3, 10), played(t, dice(seed), 3, 10)
		for range 60 {
			e := p.nearEdit(r, 4)
			if p.add(t, e) == api.OK {
				quiet.add(t, e)
			} else {
				refused++
			}
			wantSeen(t, "P12.2: behind refused edits", see(p.b, p.d), see(quiet.b, quiet.d))
		}
	}
	if refused < 300 {
		t.Fatalf("%d edits were refused: they tell too little", refused)
	}
}

// TestAddLaysTheOriginal: the log holds the edit as it was made, not as it was done, unsynced.
func TestAddLaysTheOriginal(t *testing.T) {
	b, d := example(t, 6)
	want := imageOf([]byte{1, 1},
		[]byte{2, 0, 0, 1, 0, 0, 'a', 1, 1}, []byte{2, 0, 0, 1, 0, 0, 'b', 2, 1}, []byte{2, 0, 0, 1, 0, 1, 'c', 1, 2},
		[]byte{2, 0, 1, 2, 0, 0, 0, 2, 2}, []byte{2, 0, 1, 2, 0, 0, 0, 1, 3}, []byte{2, 0, 1, 1, 0, 1, 'x', 2, 3})
	if !slices.Equal(d.Bytes(), want) || d.Synced() != 0 || b.Synced() != 0 {
		t.Errorf("P12.11: the disk has % x, %d synced, want % x", d.Bytes(), d.Synced(), want)
	}
}

func TestBoot(t *testing.T) {
	b, d := fresh(t)
	for epoch := 1; epoch <= api.MaxEpoch; epoch++ {
		wantBoot(t, b, epoch)
		if d.Size() != 10*epoch || d.Synced() != 0 {
			t.Fatalf("P12.3: behind %d boots the disk has %d bytes, %d synced", epoch, d.Size(), d.Synced())
		}
	}
	for range 2 {
		before := see(b, d)
		if n, e := b.Boot(); n != 0 || e != api.ErrEpochs {
			t.Fatalf("P12.3: Boot in epoch 255 = %d, %d, want 0, ErrEpochs", n, e)
		}
		wantSeen(t, "P12.3: a refused boot", see(b, d), before)
	}
	wantAdd(t, b, edit(0, ins(0, 'a', 64, 1)), 1, ins(0, 'a', 64, 1), "a")
	b, err := open(t, d)
	wantError(t, "P12.6: 255 boots and an edit", err, nil)
	if n, e := b.Boot(); n != 0 || e != api.ErrEpochs || b.Revs() != 1 {
		t.Errorf("P12.3: opened again: Boot in epoch 255 = %d, %d", n, e)
	}
}

// TestBootsLeaveTheRecords: an edit goes on over any number of boots as if none had been.
func TestBootsLeaveTheRecords(t *testing.T) {
	plain, _ := example(t, 6)
	b, d := fresh(t)
	for rev := 1; rev <= 6; rev++ {
		wantBoot(t, b, 2*rev-1)
		wantBoot(t, b, 2*rev)
		e, _ := plain.Edit(rev)
		want, _ := plain.Done(rev)
		if n, op, bad := b.Add(e); n != rev || op != want || bad != api.OK {
			t.Fatalf("P12.2: behind boots Add(%s) = %d, %s, %d, want %d, %s", word(e), n, opWord(op), bad, rev, opWord(want))
		}
	}
	if d.Size() != 12*10+6*17 {
		t.Errorf("P12.11: the disk has %d bytes, want 222", d.Size())
	}
}

// TestSyncCountsRecords: boots are synced too, and not counted.
func TestSyncCountsRecords(t *testing.T) {
	p := newPair(t)
	p.sync(t)
	for n := range 6 {
		for range n % 3 {
			p.boot(t)
		}
		p.sync(t)
		for k := range n {
			p.boot(t)
			p.add(t, edit(k, ins(0, 'a', n+1, k+1)))
			p.wantSame(t, "P12.4: not synced yet")
		}
		p.sync(t)
		p.wantSame(t, "P12.4: synced")
		p.sync(t)
	}
	if p.b.Synced() != 15 {
		t.Errorf("P12.4: Synced = %d, want 15", p.b.Synced())
	}
}

// TestSyncedCountsWholeRecords: a disk that comes with any number of synced bytes.
func TestSyncedCountsWholeRecords(t *testing.T) {
	items := []api.Item{boot(1), itemOf(edit(0, ins(0, 'a', 1, 1))), itemOf(edit(0, ins(0, 'b', 2, 1))), boot(2), boot(3), itemOf(edit(2, del(0, 1, 2))), boot(4)}
	image := imageOfItems(items...)
	for synced := range len(image) + 1 {
		want := 0
		for _, end := range []int{27, 44, 81} {
			if end <= synced {
				want++
			}
		}
		d := diskOf(t, image, synced)
		b, err := open(t, d)
		wantError(t, "P12.6: a good log", err, nil)
		if b.Synced() != want || b.Revs() != 3 || b.Epoch() != 4 || d.Synced() != synced {
			t.Fatalf("P12.4: with %d bytes synced: %s, want Synced %d", synced, see(b, d), want)
		}
		if n := b.Sync(); n != 3-want || b.Synced() != 3 || d.Synced() != len(image) {
			t.Fatalf("P12.4: with %d bytes synced: Sync = %d, want %d; Synced %d", synced, n, 3-want, b.Synced())
		}
	}
}

func TestLastOfNoClient(t *testing.T) {
	b, _ := example(t, 6)
	for _, id := range []int{0, -1, -2, 65, 66, 128, math.MinInt, math.MaxInt} {
		if seq, tag := b.Last(id); seq != 0 || tag != 0 {
			t.Errorf("P12.4: Last(%d) = %d, %d, want 0, 0", id, seq, tag)
		}
	}
}

// TestNumbersOfAnySize: no number in an edit makes a call panic or go astray.
func TestNumbersOfAnySize(t *testing.T) {
	b, d := example(t, 6)
	numbers := []int{math.MinInt, math.MinInt + 1, -4097, -1, 7, 64, 65, 4096, 4097, 1 << 16, 1 << 32, math.MaxInt - 1, math.MaxInt}
	for _, n := range numbers {
		wantRefused(t, "a tag", b, d, edit(n, ins(0, 'a', 1, 4)), api.ErrTag)
		wantRefused(t, "a tag of a new client", b, d, edit(n, ins(0, 'a', 5, 1)), api.ErrTag)
		if n < 0 || n > 2 {
			wantRefused(t, "a kind", b, d, edit(6, api.Op{Kind: n, Client: 1, Seq: 4}), api.ErrOpKind)
		}
		if n < 1 || n > 64 {
			wantRefused(t, "a client", b, d, edit(6, ins(0, 'a', n, 1)), api.ErrWho)
			wantRefused(t, "a Seq", b, d, edit(6, ins(0, 'a', 1, n)), api.ErrWho)
		}
		if n < 0 || n > 4095 {
			wantRefused(t, "a place", b, d, edit(6, ins(n, 'a', 1, 4)), api.ErrPos)
			wantRefused(t, "a place", b, d, edit(6, del(n, 1, 4)), api.ErrPos)
		}
	}
}

func TestExamplesOfReplay(t *testing.T) {
	for _, c := range []struct {
		edits []api.Edit
		done  []api.Op
		text  string
		err   error
	}{
		{[]api.Edit{edit(0, ins(0, 'a', 1, 1)), edit(0, ins(0, 'b', 2, 1))}, []api.Op{ins(0, 'a', 1, 1), ins(1, 'b', 2, 1)}, "ab", nil},
		{[]api.Edit{edit(0, ins(0, 'a', 1, 1)), edit(0, ins(5, 'b', 2, 1))}, []api.Op{ins(0, 'a', 1, 1)}, "a", api.Wrap(1, api.ErrPlace)},
		{nil, nil, "", nil},
		{[]api.Edit{}, nil, "", nil},
		{[]api.Edit{{}}, nil, "", api.Wrap(0, api.ErrWho)},
		{[]api.Edit{edit(0, nop(1, 1)), edit(0, ins(0, 'a', 1, 1))}, nil, "", api.Wrap(0, api.ErrNoEdit)},
		{[]api.Edit{edit(0, ins(0, 'a', 1, 1)), edit(1, del(0, 1, 2)), edit(2, del(0, 1, 3)), edit(2, ins(0, 'b', 2, 1))}, []api.Op{ins(0, 'a', 1, 1), del(0, 1, 2)}, "", api.Wrap(2, api.ErrPlace)},
	} {
		done, text, err := book.Replay(c.edits)
		if !slices.Equal(done, c.done) || doc.Text(text) != c.text {
			t.Errorf("P12.7: Replay(%s) = %v, %q, want %v, %q", words(c.edits), done, doc.Text(text), c.done, c.text)
		}
		wantError(t, "P12.7: Replay", err, c.err)
	}
}

// TestReplayIsTheBook: any edits, good and bad ones, replayed and added one by one.
func TestReplayIsTheBook(t *testing.T) {
	broken := 0
	for seed := range 200 {
		r := dice(seed)
		p := played(t, r, 4, 30)
		edits := p.b.Edits()
		if seed%2 == 1 {
			at := r.IntN(len(edits) + 1)
			edits = slices.Insert(edits, at, p.nearEdit(r, 5))
		}
		m, want := &model{}, error(nil)
		m.boot()
		for i, e := range edits {
			if bad := m.check(e); bad != api.OK {
				want = api.Wrap(i, bad)
				broken++
				break
			}
			m.add(e)
		}
		done, text, err := book.Replay(edits)
		if !slices.Equal(done, m.done) || !slices.Equal(text, m.text(len(m.done))) {
			t.Fatalf("P12.7: Replay(%s) = %v, %s, want %v, %s", words(edits), done, textWord(text), m.done, textWord(m.text(len(m.done))))
		}
		wantError(t, "P12.7: Replay", err, want)
	}
	if broken < 50 {
		t.Fatalf("%d replays broke off: they tell too little", broken)
	}
}

// TestBooksShareNothing: what is done to one is not seen in another, on a disk of its own.
func TestBooksShareNothing(t *testing.T) {
	still, d := example(t, 5)
	busy, _ := example(t, 5)
	before := see(still, d)
	wantAdd(t, busy, edit(1, ins(1, 'x', 2, 3)), 6, ins(2, 'x', 2, 3), "bcx")
	wantBoot(t, busy, 2)
	busy.Sync()
	book.Replay([]api.Edit{edit(0, ins(0, 'z', 3, 1))})
	wantSeen(t, "P0.1", see(still, d), before)
	wantAdd(t, still, edit(1, ins(1, 'x', 2, 3)), 6, ins(2, 'x', 2, 3), "bcx")
}

// TestBookKeepsItsDisk: what it writes is seen on the disk that was handed in, and on no other.
func TestBookKeepsItsDisk(t *testing.T) {
	image := imageOfItems(boot(1))
	d, other := diskOf(t, image, 10), diskOf(t, image, 10)
	b, _ := open(t, d)
	open(t, other)
	wantAdd(t, b, edit(0, ins(0, 'a', 1, 1)), 1, ins(0, 'a', 1, 1), "a")
	if d.Size() != 27 || d.Synced() != 10 || other.Size() != 10 {
		t.Errorf("P12.2: the disk has %d bytes, %d synced, another %d", d.Size(), d.Synced(), other.Size())
	}
	b.Sync()
	if d.Synced() != 27 {
		t.Errorf("P12.4: %d bytes are synced, want 27", d.Synced())
	}
	again, _ := disk.From(d.Bytes())
	if b, _ := open(t, again); b.Revs() != 1 {
		t.Errorf("P12.8: %d records, want 1", b.Revs())
	}
}
