package vault_test

import (
	"bytes"
	"math"
	"testing"

	"jotter/api"
	"jotter/disk"
	"jotter/snapshot"
)

// TestEpochs: 255 boots are taken and no more, with checkpoints between them or not.
func TestEpochs(t *testing.T) {
	for _, every := range []int{1, 7, 1000} {
		x := fresh(t)
		for epoch := 1; epoch <= 255; epoch++ {
			x.boot(t, epoch)
			if epoch%every == 0 {
				x.check(t)
			}
		}
		for range 2 {
			was := x.see()
			if n, e := x.v.Boot(); n != 0 || e != api.ErrEpochs {
				t.Fatalf("P27.2: Boot in epoch 255 = %d, %d, want 0, ErrEpochs", n, e)
			}
			wantSeen(t, "P27.2: a refused Boot", x.see(), was)
			y, err := x.again(t)
			wantError(t, "P27.9: 255 boots", err, nil)
			x = y
		}
		x.add(t, edit(0, ins(0, 'a', 64, 1)), 1, ins(0, 'a', 64, 1))
		x.check(t)
		x.is(t, "the last epoch", 255, 1, 1, 1, "a", 12)
	}
}

// fullLog gives the edits of the greatest log: 64 clients, 64 edits each, in turns, each of whom has seen all.
func fullLog() []api.Edit {
	var edits []api.Edit
	for seq := 1; seq <= 64; seq++ {
		for client := 1; client <= 64; client++ {
			n := len(edits)
			edits = append(edits, edit(n, ins(n/2, byte(32+n%95), client, seq)))
		}
	}
	return edits
}

// TestFullLog: the greatest log, made through many checkpoints, is the state of all its edits, and so it is if no checkpoint was made.
func TestFullLog(t *testing.T) {
	edits := fullLog()
	x := fresh(t)
	x.boot(t, 1)
	log := B(1)
	for i, e := range edits {
		x.add(t, e, i+1, e.Op)
		log = append(log, recordOf(editOf(e))...)
		if i%500 == 499 {
			x.check(t)
		}
	}
	want, err := snapshot.Of(edits)
	if err != nil {
		t.Fatal(err)
	}
	if x.v.Base() != 4000 || x.v.Synced() != 4000 {
		t.Errorf("P27.6: the greatest log: Base %d, Synced %d", x.v.Base(), x.v.Synced())
	}
	y, err := over(t, log, x.d[1].Bytes(), nil)
	wantError(t, "P27.1: all records, a slot of most", err, nil)
	z, err := over(t, log, nil, nil)
	wantError(t, "P27.1: all records, no slot", err, nil)
	for _, v := range []*trio{x, y, z} {
		if v.v.Revs() != 4096 || !bytes.Equal(stateIn(t, v), want.Bytes()) {
			t.Fatal("P27.6: the greatest log has come to another state")
		}
		v.is(t, "the greatest log", 1, 4096, 4096, 4096, string(textOf(want.Doc())), 12)
		v.notAdded(t, edit(4096, ins(0, 'a', 1, 65)), api.ErrWho)
		v.notAdded(t, edit(4096, ins(0, 'a', 1, 64)), api.ErrDone)
		v.notAdded(t, edit(4096, ins(0, 'a', 65, 1)), api.ErrWho)
		again, err := v.again(t)
		wantError(t, "P27.9: the greatest log", err, nil)
		again.is(t, "the greatest log again", 1, 4096, 4096, 4096, string(textOf(want.Doc())), 12)
	}
}

func textOf(text []api.Elem) []byte {
	var b []byte
	for _, x := range text {
		b = append(b, x.Ch)
	}
	return b
}

// stateIn does a checkpoint, and gives the state's bytes out of the slot that it went to.
func stateIn(t *testing.T, x *trio) []byte {
	t.Helper()
	was := x.see()
	x.check(t)
	for i := 1; i <= 2; i++ {
		if b := x.d[i].Bytes(); !bytes.Equal(b, was.bytes[i]) {
			return b[9 : len(b)-4]
		}
	}
	t.Fatal("P27.5: no slot was written")
	return nil
}

// wide gives edits whose slot has 262144 bytes, if the tag is 51; three more for each that it is less: 37 clients that have seen next to nothing.
func wide(tag int) []api.Edit {
	var edits []api.Edit
	for client := 1; client <= 37; client++ {
		count := 63
		switch client {
		case 36:
			count = 35
		case 37:
			count = 60
		}
		for seq := 1; seq <= count; seq++ {
			edits = append(edits, edit(0, ins(0, byte('a'+client%26), client, seq)))
		}
	}
	edits[len(edits)-1].Tag = tag
	return edits
}

// TestFullSlot: a slot's bytes may fill a disk, and no more.
func TestFullSlot(t *testing.T) {
	for _, c := range []struct {
		tag, size int
		want      api.Errno
	}{{51, api.MaxDisk, api.OK}, {50, api.MaxDisk + 3, api.ErrDiskFull}} {
		edits := wide(c.tag)
		log := B(1)
		for _, e := range edits {
			log = append(log, recordOf(editOf(e))...)
		}
		if n := len(slotAt(t, 1, edits...)); n != c.size {
			t.Fatalf("the slot's bytes are %d, want %d: they tell nothing", n, c.size)
		}
		x, err := over(t, log, []byte{1}, nil)
		wantError(t, "P27.1: a wide state", err, api.Wrap(1, api.ErrShort))
		if c.want != api.OK {
			x.refused(t, "a state too wide", c.want)
			e := edit(len(edits), ins(0, 'z', 37, 61))
			x.add(t, e, len(edits)+1, e.Op)
			x.check(t)
			continue
		}
		x.check(t)
		if x.d[1].Size() != c.size || x.v.Base() != len(edits) {
			t.Fatalf("P27.5: slot one has %d bytes, Base is %d", x.d[1].Size(), x.v.Base())
		}
		y, err := x.again(t)
		wantError(t, "P27.1: a full slot", err, nil)
		if got := y.see(); !got.same(x.see()) {
			t.Fatalf("P27.9: a full slot: %s, want %s", got.answers, ask(x.v))
		}
	}
}

// TestNoRoom: a log whose disk somebody has filled. (No log that can be has so many items; only so a disk has no room.)
func TestNoRoom(t *testing.T) {
	for _, left := range []int{0, 9, 10, 16, 17} {
		x := twice(t)
		x.d[0].Append(make([]byte, api.MaxDisk-left-x.d[0].Size()))
		was := ask(x.v)
		e := edit(2, ins(0, 'c', 3, 1))
		n, op, bad := x.v.Add(e)
		if left >= 17 {
			if n != 3 || op != e.Op || bad != api.OK {
				t.Fatalf("P27.3: %d bytes are left: Add = %d, %s, %d", left, n, opWord(op), bad)
			}
			continue
		}
		if n != 0 || op != (api.Op{}) || bad != api.ErrDiskFull || !ask(x.v).same(was) {
			t.Fatalf("P27.3: %d bytes are left: Add = %d, %s, %d, and the vault is %s", left, n, opWord(op), bad, ask(x.v))
		}
		x.notAdded(t, edit(3, ins(0, 'c', 3, 1)), api.ErrTag)
		epoch, bad := x.v.Boot()
		if left >= 10 && (epoch != 2 || bad != api.OK) {
			t.Fatalf("P27.2: %d bytes are left: Boot = %d, %d", left, epoch, bad)
		}
		if left < 10 && (epoch != 0 || bad != api.ErrDiskFull || !ask(x.v).same(was)) {
			t.Fatalf("P27.2: %d bytes are left: Boot = %d, %d, and the vault is %s", left, epoch, bad, ask(x.v))
		}
	}
}

// TestGreatDisks: disks as full as they can be, of bytes that are nothing.
func TestGreatDisks(t *testing.T) {
	full := make([]byte, api.MaxDisk)
	x, err := over(t, full, full, full)
	wantError(t, "P27.1: disks full of 0", err, api.Wrap(0, api.ErrHead))
	x.is(t, "disks full of 0", 0, 0, 0, 0, "", 0, api.MaxDisk, api.MaxDisk)
	x.boot(t, 1)
	x.check(t)
	x.is(t, "disks full of 0, a checkpoint", 1, 0, 0, 0, "", 12, 23, api.MaxDisk)
	log := B(1)
	for len(log)+10 <= api.MaxDisk {
		log = append(log, B(1)...)
	}
	x, err = over(t, log, nil, nil)
	wantError(t, "P27.1: the same boot often", err, api.Wrap(10, api.ErrItem))
	x.is(t, "the same boot often", 1, 0, 0, 0, "", 10, 0, 0)
}

// TestForgedStates: a slot may hold a state in which no log has come to be: the vault goes on as that state does.
func TestForgedStates(t *testing.T) {
	forged := sealed([]byte("JOTS"), []byte{0, 2, 1, 0, 0, 'a', 1, 1, 1, 0, 1, 'b', 2, 1, 0, 0, 0, 0, 0, 0, 0, 1, 0, 0})
	s, err := snapshot.Read(forged)
	if err != nil {
		t.Fatalf("the forged state is none: %v", err)
	}
	x, err := over(t, nil, nil, slotOf(forged, 255))
	wantError(t, "P27.1: a forged state", err, nil)
	x.is(t, "a forged state", 255, 2, 2, 2, "ab", 12)
	if n, e := x.v.Boot(); n != 0 || e != api.ErrEpochs {
		t.Errorf("P27.2: Boot in epoch 255 = %d, %d", n, e)
	}
	for _, e := range []api.Edit{edit(0, ins(2, 'c', 1, 2)), edit(1, del(0, 2, 2)), edit(0, del(1, 3, 1)), edit(5, del(0, 64, 1)), edit(4, del(4095, 1, 3))} {
		done, next, err := s.Resume([]api.Edit{e})
		n, op, bad := x.v.Add(e)
		if bad != api.Code(err) || err == nil && (op != done[0] || n != next.Revs()) {
			t.Fatalf("P27.3: a forged state: Add(%s) = %d, %s, %d, want %v, %v", word(e), n, opWord(op), bad, done, err)
		}
		s = next
	}
	y, err := x.again(t)
	wantError(t, "P27.9: a forged state", err, nil)
	wantSeen(t, "P27.9: a forged state", y.see(), x.see())
}

// TestNumbersOfAnySize: no number makes a call panic or go astray.
func TestNumbersOfAnySize(t *testing.T) {
	x := twice(t)
	for _, n := range []int{math.MinInt, math.MinInt + 1, -4097, -1, 3, 65, 4096, 4097, 1 << 16, 1 << 32, 1<<32 + 2, math.MaxInt - 1, math.MaxInt} {
		x.notAdded(t, edit(n, ins(0, 'a', 5, 1)), api.ErrTag)
		if n < 0 || n > 64 {
			x.notAdded(t, edit(2, ins(0, 'a', n, 1)), api.ErrWho)
			x.notAdded(t, edit(2, ins(0, 'a', 5, n)), api.ErrWho)
			if seq, tag := x.v.Last(n); seq != 0 || tag != 0 {
				t.Fatalf("P27.6: Last(%d) = %d, %d, want 0, 0", n, seq, tag)
			}
		}
		if n < 0 || n > 2 {
			x.notAdded(t, edit(2, api.Op{Kind: n, Client: 5, Seq: 1}), api.ErrOpKind)
		}
		if n < 0 || n > 4095 {
			x.notAdded(t, edit(2, ins(n, 'a', 5, 1)), api.ErrPos)
			x.notAdded(t, edit(2, del(n, 5, 1)), api.ErrPos)
		}
	}
}

// TestDisksAreTheVaults: what a vault writes is seen on the disks that were handed in, and on no other.
func TestDisksAreTheVaults(t *testing.T) {
	x := born(t)
	other := x.copied(t)
	x.check(t)
	if x.d[0].Size() != 12 || x.d[1].Size() != 31 || other.d[0].Size() != 27 || other.d[1].Size() != 0 {
		t.Errorf("P27.5: the disks have %s, copies %s", x.disksWord(), other.disksWord())
	}
	b := M(1, 1)
	d, _ := disk.From(b)
	b[5] = 9
	x.d[0] = d
	wantError(t, "P27.1: the log on another disk", x.open(), nil)
	x.is(t, "the log on another disk", 1, 1, 1, 1, "a", 12)
}
