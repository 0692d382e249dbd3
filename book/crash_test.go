package book_test

import (
	"math/rand/v2"
	"testing"

	"jotter/api"
	"jotter/disk"
	"jotter/wal"
)

// crashed gives what is opened behind a crash of the pair's disk (a copy of it: the pair stays as it is). It ends the test unless that holds the first items that are whole and not garbled.
func crashed(t *testing.T, p *pair, keep, at, mask int) *pair {
	t.Helper()
	d := diskOf(t, p.d.Bytes(), p.d.Synced())
	if e := d.Crash(keep, at, mask); e != api.OK {
		t.Fatalf("disk.Crash(%d, %d, %d) = %d", keep, at, mask, e)
	}
	whole := p.d.Synced() + keep
	if mask != 0 {
		whole = p.d.Synced() + at
	}
	items := p.m.synced
	for items < len(p.m.items) && len(imageOfItems(p.m.items[:items+1]...)) <= whole {
		items++
	}
	_, _, want := wal.Scan(d.Bytes())
	b, err := open(t, d)
	wantError(t, "P12.6: behind a crash", err, want)
	again := &pair{b, d, p.m.cut(items)}
	again.m.synced = items
	again.wantSame(t, "P12.8: behind a crash")
	return again
}

// tailed gives a pair with synced items and some behind them, boots and edits, that are not.
func tailed(t *testing.T) *pair {
	t.Helper()
	p := newPair(t)
	p.boot(t)
	p.add(t, edit(0, ins(0, 'a', 1, 1)))
	p.add(t, edit(0, ins(0, 'b', 2, 1)))
	p.sync(t)
	p.add(t, edit(0, ins(1, 'c', 1, 2)))
	p.boot(t)
	p.add(t, edit(1, del(0, 2, 2)))
	p.add(t, edit(1, del(0, 1, 3)))
	p.boot(t)
	return p
}

func TestEveryCrash(t *testing.T) {
	p := tailed(t)
	for keep := range p.d.Size() - p.d.Synced() + 1 {
		crashed(t, p, keep, 0, 0)
		for at := range keep {
			for _, mask := range []int{1, 2, 0x40, 0x80, 255} {
				crashed(t, p, keep, at, mask)
			}
		}
	}
}

// anyCrash gives three numbers by which a disk may crash.
func anyCrash(r *rand.Rand, d *disk.Disk) (keep, at, mask int) {
	keep = r.IntN(d.Size() - d.Synced() + 1)
	if keep > 0 && r.IntN(2) == 0 {
		at, mask = r.IntN(keep), 1+r.IntN(255)
	}
	return keep, at, mask
}

// TestCrashesOneBehindTheOther: each time what is left goes on as the model tells.
func TestCrashesOneBehindTheOther(t *testing.T) {
	for seed := range 60 {
		r := dice(seed)
		p := played(t, r, 3, 8)
		for range 10 {
			keep, at, mask := anyCrash(r, p.d)
			p = crashed(t, p, keep, at, mask)
			p.boot(t)
			for range 6 {
				p.playOne(t, r, 3)
			}
			p.wantSame(t, "P12.8: going on")
		}
	}
}

// TestOpenedWithoutACrash: two books, one of which was opened on the disk's bytes, go on alike.
func TestOpenedWithoutACrash(t *testing.T) {
	for seed := range 60 {
		r := dice(seed)
		p := played(t, r, 4, 40)
		d := diskOf(t, p.d.Bytes(), p.d.Synced())
		b, err := open(t, d)
		wantError(t, "P12.8: no crash", err, nil)
		again := &pair{b, d, p.m.cut(len(p.m.items))}
		again.wantSame(t, "P12.8: no crash")
		for range 40 {
			e := p.nearEdit(r, 5)
			if good, ok := p.goodEdit(r, 5); ok && r.IntN(3) > 0 {
				e = good
			}
			p.add(t, e)
			again.add(t, e)
			wantSeen(t, "P12.8: no crash, going on", see(again.b, again.d), see(p.b, p.d))
		}
	}
}

// TestEditsThatWereLost: they may come again, and are taken as the first time.
func TestEditsThatWereLost(t *testing.T) {
	p := tailed(t)
	again := crashed(t, p, 0, 0, 0)
	for rev := 1; rev <= 5; rev++ {
		e, _ := p.b.Edit(rev)
		want := api.OK
		if rev <= 2 {
			want = api.ErrDone
		}
		if got := again.add(t, e); got != want {
			t.Fatalf("P12.8: edit %d comes again: %d, want %d", rev, got, want)
		}
	}
	for rev := 1; rev <= 5; rev++ {
		got, _ := again.b.Done(rev)
		if want, _ := p.b.Done(rev); got != want {
			t.Errorf("P12.8: Done(%d) = %s, before the crash %s", rev, opWord(got), opWord(want))
		}
	}
}
