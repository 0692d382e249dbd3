package vault_test

import (
	"bytes"
	"testing"

	"jotter/api"
	"jotter/disk"
	"jotter/doc"
	"jotter/vault"
)

// stateA is layer 21's second example, and slotA a slot's bytes of it and Epoch 1, laid by hand.
func stateA() []byte {
	return sealed([]byte("JOTS"), []byte{0, 1, 1, 0, 0, 'a', 1, 1, 0, 0})
}

func slotA() []byte {
	return sealed([]byte{0, 0, 0, 0x13, 0xFF, 0xFF, 0xFF, 0xEC, 1}, stateA())
}

func TestFirstExample(t *testing.T) {
	x := fresh(t)
	x.is(t, "new disks", 0, 0, 0, 0, "", 0, 0, 0)
	x.refused(t, "nothing to keep", api.ErrAgain)
	x.notAdded(t, edit(0, ins(0, 'a', 1, 1)), api.ErrUnborn)
	x = born(t)
	x.is(t, "a boot and an edit", 1, 1, 0, 0, "a", 27, 0, 0)
	x.check(t)
	x.is(t, "a checkpoint", 1, 1, 1, 1, "a", 12, 31, 0)
	if b := x.d[1].Bytes(); !bytes.Equal(b, slotA()) {
		t.Errorf("P27.5: slot one has %s, want %s", hexWord(b), hexWord(slotA()))
	}
	if b := x.d[0].Bytes(); !bytes.Equal(b, sealed([]byte{0, 4, 0xFF, 0xFB, 3, 0, 1, 1})) {
		t.Errorf("P27.5: the log has %s", hexWord(b))
	}
	for i, d := range x.d {
		if d.Synced() != d.Size() {
			t.Errorf("P27.5: of disk %d %d bytes of %d are synced", i, d.Synced(), d.Size())
		}
	}
	x.refused(t, "nothing new", api.ErrAgain)
}

func TestSecondExample(t *testing.T) {
	x := kept(t)
	x.add(t, edit(1, ins(1, 'b', 1, 2)), 2, ins(1, 'b', 1, 2))
	x.is(t, "another edit", 1, 2, 1, 1, "ab", 29, 31, 0)
	x.check(t)
	x.is(t, "the second checkpoint", 1, 2, 2, 2, "ab", 12, 31, 37)
	if b := x.d[0].Bytes(); !bytes.Equal(b, M(2, 1)) {
		t.Errorf("P27.5: the log has %s, want the mark of 2 and 1", hexWord(b))
	}
	if b := x.d[1].Bytes(); !bytes.Equal(b, slotA()) {
		t.Errorf("P27.5: the older slot has %s", hexWord(b))
	}
	x.boot(t, 2)
	x.check(t)
	x.is(t, "another Epoch", 2, 2, 2, 2, "ab", 12, 37, 37)
	if one, two := x.d[1].Bytes(), x.d[2].Bytes(); one[8] != 2 || two[8] != 1 {
		t.Errorf("P27.5: the slots' Epochs are %d and %d, want 2 and 1", one[8], two[8])
	}
	if b := x.d[0].Bytes(); !bytes.Equal(b, M(2, 2)) {
		t.Errorf("P27.5: the log has %s, want the mark of 2 and 2", hexWord(b))
	}
	if seq, tag := x.v.Last(1); seq != 2 || tag != 1 {
		t.Errorf("P27.6: Last(1) = %d, %d, want 2, 1", seq, tag)
	}
}

func TestThirdExample(t *testing.T) {
	for _, c := range []struct {
		keep, revs, size int
		want             error
	}{{0, 1, 12, nil}, {16, 1, 12, api.Wrap(12, api.ErrTorn)}, {17, 2, 29, nil}} {
		x := kept(t)
		x.add(t, edit(1, ins(1, 'b', 1, 2)), 2, ins(1, 'b', 1, 2))
		if e := x.d[0].Crash(c.keep, 0, 0); e != api.OK {
			t.Fatalf("disk.Crash(%d, 0, 0) = %d", c.keep, e)
		}
		wantError(t, "P27.1: behind a crash", x.open(), c.want)
		x.is(t, "behind a crash", 1, c.revs, 1, c.revs, "ab"[:c.revs], c.size, 31, 0)
	}
}

func TestFourthExample(t *testing.T) {
	log := join(B(1), E(0, ins(0, 'a', 1, 1)))
	x, err := over(t, log, slotA(), nil)
	wantError(t, "P27.1: a checkpoint ahead of the log's cut", err, nil)
	x.is(t, "a checkpoint ahead of the log's cut", 1, 1, 1, 1, "a", 12, 31, 0)
	if !bytes.Equal(x.d[0].Bytes(), M(1, 1)) || x.d[0].Synced() != 12 {
		t.Errorf("P27.1: the log has %s, %d synced", hexWord(x.d[0].Bytes()), x.d[0].Synced())
	}
	x, err = over(t, log, slotA()[:10], nil)
	wantError(t, "P27.1: ten bytes of a slot", err, api.Wrap(1, api.ErrSum))
	x.is(t, "ten bytes of a slot", 1, 1, 0, 1, "a", 27, 10, 0)
	x.check(t)
	x.is(t, "into the bad slot", 1, 1, 1, 1, "a", 12, 31, 0)
}

func TestFifthExample(t *testing.T) {
	x, err := over(t, nil, slotA(), nil)
	wantError(t, "P27.1: an empty log", err, nil)
	x.is(t, "an empty log", 1, 1, 1, 1, "a", 12, 31, 0)
	x, err = over(t, join(B(1), E(0, ins(0, 'b', 2, 1))), slotA(), nil)
	wantError(t, "P27.1: another client's edit", err, api.Wrap(10, api.ErrItem))
	x.is(t, "another client's edit", 1, 1, 1, 1, "a", 12, 31, 0)
}

func TestSixthExample(t *testing.T) {
	x, err := over(t, M(1, 1), nil, nil)
	wantError(t, "P27.1: a mark, empty slots", err, api.Wrap(0, api.ErrOlder))
	if x.v != nil || x.d[0].Size() != 12 {
		t.Errorf("P27.1: a mark, empty slots: a vault %t, the log has %d bytes", x.v != nil, x.d[0].Size())
	}
	for _, same := range [][3]int{{0, 0, 1}, {0, 1, 0}, {1, 0, 0}, {0, 0, 0}} {
		var d [2]*disk.Disk
		for i := range d {
			d[i] = diskOf(t, join(B(1), []byte("torn")), 3)
		}
		v, err := vault.Open(d[same[0]], d[same[1]], d[same[2]])
		wantError(t, "P27.1: one disk twice", err, api.Wrap(0, api.ErrSlots))
		if v != nil {
			t.Errorf("P27.1: a vault over one disk twice")
		}
		for i := range d {
			if d[i].Size() != 14 || d[i].Synced() != 3 {
				t.Errorf("P27.1: one disk twice: it was touched: %d bytes, %d synced", d[i].Size(), d[i].Synced())
			}
		}
	}
}

func TestSeventhExample(t *testing.T) {
	x := twice(t)
	log, one, two := x.d[0].Bytes(), x.d[1].Bytes(), x.d[2].Bytes()
	y, err := over(t, log, nil, two)
	wantError(t, "P27.1: the older slot is empty", err, nil)
	y.is(t, "the older slot is empty", 1, 2, 2, 2, "ab", 12, 0, 37)
	y, err = over(t, log, one, nil)
	wantError(t, "P27.1: the newest slot is empty", err, api.Wrap(0, api.ErrOlder))
	if y.v != nil {
		t.Error("P27.1: a vault without the newest slot")
	}
}

// badSlots are bytes that no slot has, with their reasons.
func badSlots() []badSlot {
	a := slotA()
	body := a[:len(a)-4]
	with := func(at int, mask byte) []byte { return sealed(changed(body, at, mask)) }
	return []badSlot{
		{"one byte", []byte{0}, api.ErrShort},
		{"three bytes", []byte{1, 2, 3}, api.ErrShort},
		{"four bytes that are no sum", []byte{1, 2, 3, 4}, api.ErrSum},
		{"the sum of nothing", sealed(), api.ErrSnapForm},
		{"eight bytes", sealed(make([]byte, 8)), api.ErrSnapForm},
		{"a heading alone", sealed([]byte{0, 0, 0, 0, 255, 255, 255, 255}), api.ErrSnapForm},
		{"nine bytes 0", sealed(make([]byte, 9)), api.ErrSnapForm},
		{"a heading of 0 and a byte", sealed([]byte{0, 0, 0, 0, 255, 255, 255, 255, 1}), api.ErrSnapForm},
		{"a heading and an Epoch", sealed([]byte{0, 0, 0, 1, 255, 255, 255, 254, 1}), api.ErrSnapForm},
		{"a heading and Epoch 0", sealed([]byte{0, 0, 0, 1, 255, 255, 255, 254, 0}), api.ErrSnapRule},
		{"another length", with(3, 1), api.ErrSnapForm},
		{"another complement", with(7, 1), api.ErrSnapForm},
		{"a greater length and its complement", sealed(changed(changed(body, 3, 7), 7, 7)), api.ErrSnapForm},
		{"a length of four bytes and its complement", sealed(changed(changed(body, 0, 128), 4, 128)), api.ErrSnapForm},
		{"Epoch 0", with(8, 1), api.ErrSnapRule},
		{"Epoch 0 and no state", slotOf([]byte("none"), 0), api.ErrSnapRule},
		{"another sum of the state", with(len(body)-1, 1), api.ErrSnapSum},
		{"another heading of the state", slotOf(sealed([]byte("JOTT"), []byte{0, 0}), 1), api.ErrSnapForm},
		{"three bytes of a state", slotOf([]byte{1, 2, 3}, 1), api.ErrSnapForm},
		{"no state of a log", slotOf(sealed([]byte("JOTS"), []byte{0, 1, 1, 0, 1, 'a', 1, 1, 0, 0}), 1), api.ErrSnapRule},
		{"one byte more", append(bytes.Clone(a), 0), api.ErrSum},
		{"one byte more, sealed", sealed(body, []byte{0}), api.ErrSnapForm},
		{"one byte less", a[:len(a)-1], api.ErrSum},
		{"one byte less, sealed", sealed(body[:len(body)-1]), api.ErrSnapForm},
	}
}

type badSlot struct {
	what  string
	bytes []byte
	why   api.Errno
}

// TestBadSlots: what is no slot's bytes is passed over, with its reason, and the next checkpoint goes there.
func TestBadSlots(t *testing.T) {
	good := twice(t)
	log, two := good.d[0].Bytes(), good.d[2].Bytes()
	for _, c := range badSlots() {
		x, err := over(t, log, c.bytes, two)
		wantError(t, "P27.1: slot one: "+c.what, err, api.Wrap(1, c.why))
		x.is(t, "slot one: "+c.what, 1, 2, 2, 2, "ab", 12, len(c.bytes), 37)
		x.boot(t, 2)
		x.check(t)
		x.is(t, "into slot one: "+c.what, 2, 2, 2, 2, "ab", 12, 37, 37)
		x, err = over(t, log, two, c.bytes)
		wantError(t, "P27.1: slot two: "+c.what, err, api.Wrap(2, c.why))
		x.is(t, "slot two: "+c.what, 1, 2, 2, 2, "ab", 12, 37, len(c.bytes))
		x.boot(t, 2)
		x.check(t)
		x.is(t, "into slot two: "+c.what, 2, 2, 2, 2, "ab", 12, 37, 37)
		if !bytes.Equal(x.d[1].Bytes(), two) {
			t.Errorf("P27.5: %s: the newest slot was written", c.what)
		}
		x, err = over(t, nil, c.bytes, []byte{9})
		wantError(t, "P27.1: two bad slots", err, api.Wrap(1, c.why))
		x.is(t, "two bad slots: "+c.what, 0, 0, 0, 0, "", 0, len(c.bytes), 1)
		x, err = over(t, []byte{1, 2}, c.bytes, nil)
		wantError(t, "P27.1: a torn log, a bad slot", err, api.Wrap(0, api.ErrTorn))
		x.is(t, "a torn log, a bad slot: "+c.what, 0, 0, 0, 0, "", 0, len(c.bytes), 0)
	}
}

// TestNewest: which of two good slots is taken, and which is written next.
func TestNewest(t *testing.T) {
	a, b := edit(0, ins(0, 'a', 1, 1)), edit(1, ins(1, 'b', 1, 2))
	z := edit(0, ins(0, 'z', 2, 1))
	for _, c := range []struct {
		what     string
		one, two []byte
		epoch    int
		text     string
		next     int
	}{
		{"two has more records", slotAt(t, 1, a), slotAt(t, 1, a, b), 1, "ab", 1},
		{"one has more records", slotAt(t, 1, a, b), slotAt(t, 1, a), 1, "ab", 2},
		{"more records weigh more than a greater Epoch", slotAt(t, 9, a), slotAt(t, 1, a, b), 1, "ab", 1},
		{"the same, turned round", slotAt(t, 1, a, b), slotAt(t, 9, a), 1, "ab", 2},
		{"two has the greater Epoch", slotAt(t, 1, a), slotAt(t, 2, z), 2, "z", 1},
		{"one has the greater Epoch", slotAt(t, 2, a), slotAt(t, 1, z), 2, "a", 2},
		{"as many, the same Epoch", slotAt(t, 2, a), slotAt(t, 2, z), 2, "a", 2},
		{"only one is good", slotAt(t, 1, a), nil, 1, "a", 2},
		{"only two is good", nil, slotAt(t, 1, a), 1, "a", 1},
		{"two without a record", slotAt(t, 3), slotAt(t, 4), 4, "", 1},
		{"one of two without a record", slotAt(t, 5), slotAt(t, 4), 5, "", 2},
	} {
		x, err := over(t, nil, c.one, c.two)
		wantError(t, "P27.1: "+c.what, err, nil)
		x.is(t, c.what, c.epoch, len(c.text), len(c.text), len(c.text), c.text, 12, len(c.one), len(c.two))
		if !bytes.Equal(x.d[0].Bytes(), M(len(c.text), c.epoch)) {
			t.Errorf("P27.1: %s: the log has %s", c.what, hexWord(x.d[0].Bytes()))
		}
		was := x.see()
		x.boot(t, c.epoch+1)
		x.check(t)
		for i := 1; i <= 2; i++ {
			if bytes.Equal(x.d[i].Bytes(), was.bytes[i]) != (i != c.next) {
				t.Errorf("P27.5: %s: slot %d is written: %t", c.what, i, i != c.next)
			}
		}
	}
}

// TestReasons: the first item that cannot stand, with what stands ahead of it and what is kept by then.
func TestReasons(t *testing.T) {
	a, b := E(0, ins(0, 'a', 1, 1)), E(1, ins(1, 'b', 1, 2))
	one := slotAt(t, 1, edit(0, ins(0, 'a', 1, 1)))
	both := slotAt(t, 2, edit(0, ins(0, 'a', 1, 1)), edit(1, ins(1, 'b', 1, 2)))
	none := slotAt(t, 3)
	for _, c := range []struct {
		what  string
		slot  []byte
		good  [][]byte // what stands
		bad   []byte
		why   api.Errno
		epoch int
		text  string
		anew  bool
	}{
		{"no kind", nil, [][]byte{B(1), a}, recordOf([]byte{7}), api.ErrMsgKind, 1, "a", false},
		{"a length", nil, [][]byte{B(1), a}, recordOf([]byte{1, 2, 3}), api.ErrLength, 1, "a", false},
		{"a field", nil, [][]byte{B(1), a}, recordOf([]byte{1, 0}), api.ErrField, 1, "a", false},
		{"a mark behind a boot", nil, [][]byte{B(1)}, M(0, 1), api.ErrMsgKind, 1, "", false},
		{"a mark behind a mark", one, [][]byte{M(1, 1)}, M(1, 1), api.ErrMsgKind, 1, "a", false},
		{"a mark of no Epoch", nil, nil, M(0, 0), api.ErrMsgKind, 0, "", false},
		{"a mark of too many records", one, nil, M(4097, 1), api.ErrMsgKind, 1, "a", true},
		{"a short mark", one, nil, recordOf([]byte{3, 0, 1}), api.ErrMsgKind, 1, "a", true},
		{"a long mark", one, nil, recordOf([]byte{3, 0, 1, 1, 0}), api.ErrMsgKind, 1, "a", true},
		{"a kind and nothing more", one, nil, recordOf([]byte{3}), api.ErrMsgKind, 1, "a", true},
		{"the first boot is 2", nil, nil, B(2), api.ErrItem, 0, "", false},
		{"boot 1 twice", nil, [][]byte{B(1)}, B(1), api.ErrItem, 1, "", false},
		{"a boot left out", nil, [][]byte{B(1)}, B(3), api.ErrItem, 1, "", false},
		{"boot 2 behind a mark of 2", both, [][]byte{M(1, 2)}, B(2), api.ErrItem, 2, "ab", true},
		{"boot 1 behind a mark of 1", one, [][]byte{M(0, 1)}, B(1), api.ErrItem, 1, "a", true},
		{"a boot that the slot has not, ahead of its records", one, [][]byte{B(1)}, B(2), api.ErrItem, 1, "a", true},
		{"the same behind one record of two", both, [][]byte{B(1), a, B(2)}, B(3), api.ErrItem, 2, "ab", true},
		{"an edit ahead of any boot", nil, nil, a, api.ErrUnborn, 0, "", false},
		{"an edit ahead of any boot that the slot has", one, nil, a, api.ErrUnborn, 1, "a", true},
		{"another client's edit", one, [][]byte{B(1)}, E(0, ins(0, 'a', 2, 1)), api.ErrItem, 1, "a", true},
		{"another Seq", one, [][]byte{B(1)}, E(0, ins(0, 'a', 1, 2)), api.ErrItem, 1, "a", true},
		{"the second record's Seq", both, [][]byte{B(1), a}, a, api.ErrItem, 2, "ab", true},
		{"an edit ahead of the slot's Epoch", both, [][]byte{B(1), a, b}, E(2, ins(2, 'c', 1, 3)), api.ErrItem, 2, "ab", true},
		{"the same behind a mark", both, [][]byte{M(2, 1)}, E(2, ins(2, 'c', 1, 3)), api.ErrItem, 2, "ab", true},
		{"the first edit ahead of the slot's Epoch", none, [][]byte{B(1), B(2)}, a, api.ErrItem, 3, "", true},
		{"no operation", nil, [][]byte{B(1)}, E(0, nop(1, 1)), api.ErrNoEdit, 1, "", false},
		{"an edit once more", nil, [][]byte{B(1), a}, a, api.ErrDone, 1, "a", false},
		{"the same behind the slot", one, [][]byte{M(1, 1)}, a, api.ErrDone, 1, "a", false},
		{"an edit out of turn", nil, [][]byte{B(1)}, b, api.ErrTurn, 1, "", false},
		{"the same behind the slot", one, [][]byte{M(1, 1)}, E(1, ins(1, 'c', 1, 3)), api.ErrTurn, 1, "a", false},
		{"a tag of what is not there", nil, [][]byte{B(1), a}, E(2, ins(1, 'c', 2, 1)), api.ErrTag, 1, "a", false},
		{"a tag that falls", both, [][]byte{M(2, 2)}, E(0, ins(0, 'c', 1, 3)), api.ErrTag, 2, "ab", false},
		{"a place beyond the text", nil, [][]byte{B(1), a}, E(0, ins(1, 'c', 2, 1)), api.ErrPlace, 1, "a", false},
		{"the same behind the slot", one, [][]byte{M(1, 1)}, E(0, ins(1, 'c', 2, 1)), api.ErrPlace, 1, "a", false},
	} {
		good := join(c.good...)
		for _, tail := range [][]byte{nil, []byte("torn"), B(9), a} {
			x, err := over(t, join(good, c.bad, tail), c.slot, []byte{1})
			wantError(t, "P27.1: "+c.what, err, api.Wrap(len(good), c.why))
			want := good
			if c.anew {
				want = M(len(c.text), c.epoch)
			}
			x.is(t, c.what, c.epoch, len(c.text), x.v.Base(), len(c.text), c.text, len(want), len(c.slot), 1)
			if !bytes.Equal(x.d[0].Bytes(), want) {
				t.Errorf("P27.1: %s: the log has %s, want %s", c.what, hexWord(x.d[0].Bytes()), hexWord(want))
			}
		}
	}
}

// TestPassedOver: a log that begins ahead of the slot: what the slot has is passed over, whatever it is beside its maker, and what lies behind is taken.
func TestPassedOver(t *testing.T) {
	a, b := E(0, ins(0, 'a', 1, 1)), E(1, ins(1, 'b', 1, 2))
	c, d := E(2, ins(2, 'c', 2, 1)), E(2, del(0, 3, 1))
	slot := slotAt(t, 2, edit(0, ins(0, 'a', 1, 1)), edit(1, ins(1, 'b', 1, 2)))
	for _, x := range []struct {
		what  string
		log   []byte
		epoch int
		text  string
		revs  int
		anew  bool
	}{
		{"all of it", join(B(1), a, b, B(2), c, d), 2, "bc", 4, false},
		{"boots between", join(B(1), a, B(2), b, c), 2, "abc", 3, false},
		{"behind a mark of none", join(M(0, 1), a, b, B(2), c), 2, "abc", 3, false},
		{"behind a mark of one", join(M(1, 1), b, B(2), c, d), 2, "bc", 4, false},
		{"behind a mark of one and the Epoch", join(M(1, 2), b, c), 2, "abc", 3, false},
		{"behind a mark of both and Epoch 1", join(M(2, 1), B(2), c), 2, "abc", 3, false},
		{"behind its own mark", join(M(2, 2), c, d), 2, "bc", 4, false},
		{"a boot more", join(B(1), a, b, B(2), B(3)), 3, "ab", 2, false},
		{"a boot more behind a mark", join(M(2, 2), B(3)), 3, "ab", 2, false},
		{"other edits by the same", join(B(1), E(9, del(8, 1, 1)), E(0, nop(1, 2)), B(2), c), 2, "abc", 3, false},
		{"no more than the slot", join(B(1), a, b, B(2)), 2, "ab", 2, true},
		{"no more than the slot, behind a mark", join(M(1, 1), b, B(2)), 2, "ab", 2, true},
		{"its own mark alone", M(2, 2), 2, "ab", 2, false},
		{"a record less", join(B(1), a, B(2)), 2, "ab", 2, true},
		{"a boot less", join(B(1), a, b), 2, "ab", 2, true},
		{"a mark of less", M(1, 2), 2, "ab", 2, true},
		{"a mark of an earlier Epoch", M(2, 1), 2, "ab", 2, true},
		{"nothing", nil, 2, "ab", 2, true},
	} {
		y, err := over(t, x.log, nil, slot)
		wantError(t, "P27.1: "+x.what, err, nil)
		want := x.log
		if x.anew {
			want = M(2, 2)
		}
		y.is(t, x.what, x.epoch, x.revs, 2, x.revs, x.text, len(want), 0, len(slot))
		if !bytes.Equal(y.d[0].Bytes(), want) || y.d[0].Synced() != len(want) {
			t.Errorf("P27.1: %s: the log has %s, %d synced, want %s", x.what, hexWord(y.d[0].Bytes()), y.d[0].Synced(), hexWord(want))
		}
		n, e := y.v.Boot()
		if n != x.epoch+1 || e != api.OK {
			t.Errorf("P27.2: %s: Boot = %d, %d, want %d", x.what, n, e, x.epoch+1)
		}
		y.add(t, edit(x.revs, ins(0, 'z', 9, 1)), x.revs+1, ins(0, 'z', 9, 1))
		z, err := y.again(t)
		wantError(t, "P27.9: "+x.what+": again", err, nil)
		z.is(t, x.what+": again", x.epoch+1, x.revs+1, 2, x.revs, "z"+x.text)
	}
}

// TestOlder: a log that begins behind what the slots hold, in records or in Epoch, is refused, its torn end cut, the slots synced, and nothing else done.
func TestOlder(t *testing.T) {
	slot := slotAt(t, 2, edit(0, ins(0, 'a', 1, 1)), edit(1, ins(1, 'b', 1, 2)))
	for _, mark := range [][2]int{{3, 2}, {2, 3}, {3, 3}, {0, 3}, {3, 1}, {4096, 255}} {
		log := join(M(mark[0], mark[1]), B(9))
		x := &trio{d: [3]*disk.Disk{diskOf(t, join(log, []byte("torn")), 5), diskOf(t, slot, 7), diskOf(t, []byte("bad"), 1)}}
		wantError(t, "P27.1: a mark beyond the slots", x.open(), api.Wrap(0, api.ErrOlder))
		if x.v != nil {
			t.Fatalf("P27.1: a vault whose log begins at %v", mark)
		}
		if !bytes.Equal(x.d[0].Bytes(), log) || x.d[0].Synced() != 5 || x.d[1].Synced() != len(slot) || x.d[2].Synced() != 3 {
			t.Errorf("P27.1: a mark beyond the slots: the disks are %s; synced %d, %d, %d", x.disksWord(), x.d[0].Synced(), x.d[1].Synced(), x.d[2].Synced())
		}
	}
	for _, bad := range []badSlot{{}, badSlots()[0]} {
		_, err := over(t, M(0, 1), bad.bytes, bad.bytes)
		wantError(t, "P27.1: a mark of nothing, no good slot", err, api.Wrap(0, api.ErrOlder))
	}
}

// TestSlotsAreSynced: Open syncs the slots, and leaves the log as it is synced.
func TestSlotsAreSynced(t *testing.T) {
	slot := slotA()
	x := &trio{d: [3]*disk.Disk{diskOf(t, join(M(1, 1), B(2)), 15), diskOf(t, slot, 3), diskOf(t, []byte("bad"), 0)}}
	wantError(t, "P27.1: slots that are not synced", x.open(), api.Wrap(2, api.ErrShort))
	x.is(t, "slots that are not synced", 2, 1, 1, 1, "a", 22, 31, 3)
	if x.d[0].Synced() != 15 || x.d[1].Synced() != 31 || x.d[2].Synced() != 3 {
		t.Errorf("P27.1: synced are %d, %d, %d", x.d[0].Synced(), x.d[1].Synced(), x.d[2].Synced())
	}
}

// TestSynced: Synced counts what lies whole in the log's synced bytes, or what the slot holds, and Sync tells how many more they become.
func TestSynced(t *testing.T) {
	a, b, c := E(0, ins(0, 'a', 1, 1)), E(1, ins(1, 'b', 1, 2)), E(2, ins(2, 'c', 1, 3))
	slot := slotA()
	for _, x := range []struct {
		what  string
		log   []byte
		slot  []byte
		revs  int
		ends  []int // of the edits in the log
		begin int
		base  int
	}{
		{"no slot", join(B(1), a, b, B(2), c), nil, 3, []int{27, 44, 71}, 0, 0},
		{"behind the slot", join(M(1, 1), b, B(2), c), slot, 3, []int{29, 56}, 1, 1},
		{"from ahead of the slot", join(B(1), a, b, c), slot, 3, []int{27, 44, 61}, 0, 1},
	} {
		for firm := range len(x.log) + 1 {
			want := x.begin
			for _, end := range x.ends {
				if end <= firm {
					want++
				}
			}
			want = max(want, x.base)
			y := &trio{d: [3]*disk.Disk{diskOf(t, x.log, firm), diskOf(t, x.slot, len(x.slot)), disk.New()}}
			wantError(t, "P27.1: "+x.what, y.open(), nil)
			if y.v.Synced() != want || y.v.Revs() != x.revs || y.d[0].Synced() != firm {
				t.Fatalf("P27.6: %s: %d bytes synced: %s, want Synced %d", x.what, firm, y.see(), want)
			}
			if n := y.v.Sync(); n != x.revs-want || y.v.Synced() != x.revs || y.d[0].Synced() != len(x.log) {
				t.Fatalf("P27.4: %s: %d bytes synced: Sync = %d, want %d", x.what, firm, n, x.revs-want)
			}
			if n := y.v.Sync(); n != 0 {
				t.Fatalf("P27.4: %s: a second Sync = %d", x.what, n)
			}
		}
	}
}

// TestAddLooksInOrder gives edits of which more than one error is true: the first of them must be told.
func TestAddLooksInOrder(t *testing.T) {
	x := fresh(t)
	x.notAdded(t, api.Edit{}, api.ErrUnborn)
	x = twice(t)
	x.add(t, edit(2, ins(0, 'c', 2, 1)), 3, ins(0, 'c', 2, 1))
	for _, c := range []struct {
		e    api.Edit
		want api.Errno
	}{
		{api.Edit{}, api.ErrWho},
		{edit(99, api.Op{Kind: 3, Pos: -1, Ch: 1, Client: 65, Seq: 65}), api.ErrOpKind},
		{edit(99, api.Op{Kind: api.Nop, Pos: -1, Ch: 1, Client: 0, Seq: 1}), api.ErrWho},
		{edit(99, api.Op{Kind: api.Insert, Pos: -1, Ch: 31, Client: 1, Seq: 1}), api.ErrCh},
		{edit(99, ins(4096, 'a', 1, 1)), api.ErrPos},
		{edit(99, nop(1, 1)), api.ErrNoEdit},
		{edit(99, ins(4095, 'a', 1, 2)), api.ErrDone},
		{edit(-9, ins(4095, 'a', 1, 4)), api.ErrTurn},
		{edit(99, ins(4095, 'a', 1, 3)), api.ErrTag},
		{edit(0, ins(4095, 'a', 1, 3)), api.ErrTag},
		{edit(4, ins(0, 'a', 3, 1)), api.ErrTag},
		{edit(2, ins(3, 'a', 1, 3)), api.ErrPlace},
		{edit(3, ins(4, 'a', 1, 3)), api.ErrPlace},
		{edit(3, del(3, 1, 3)), api.ErrPlace},
	} {
		x.notAdded(t, c.e, c.want)
	}
	x.add(t, edit(2, ins(2, 'd', 1, 3)), 4, ins(3, 'd', 1, 3))
	x.is(t, "what can stand", 1, 4, 2, 2, "cabd")
}

// TestLogBytes: what Boot and Add lay, unsynced: the item as it was made.
func TestLogBytes(t *testing.T) {
	x := twice(t)
	x.boot(t, 2)
	x.add(t, edit(0, ins(0, 'c', 2, 1)), 3, ins(2, 'c', 2, 1))
	want := join(M(2, 1), B(2), E(0, ins(0, 'c', 2, 1)))
	if b := x.d[0].Bytes(); !bytes.Equal(b, want) || x.d[0].Synced() != 12 {
		t.Errorf("P27.3: the log has %s, %d synced, want %s", hexWord(b), x.d[0].Synced(), hexWord(want))
	}
	if n := x.v.Sync(); n != 1 || x.d[0].Synced() != len(want) {
		t.Errorf("P27.4: Sync = %d, %d bytes synced", n, x.d[0].Synced())
	}
	if text := doc.Text(x.v.Doc()); text != "abc" {
		t.Errorf("P27.6: the text %q, want %q", text, "abc")
	}
}
