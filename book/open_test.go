package book_test

import (
	"bytes"
	"testing"

	"jotter/api"
	"jotter/disk"
	"jotter/wal"
	"jotter/wire"
)

// openAs gives the model of what stays of these payloads, and the reason for which the first that goes cannot stand (nil: all stay).
func openAs(payloads [][]byte) (*model, error) {
	m := &model{}
	for _, p := range payloads {
		item, err := wire.DecodeItem(p)
		switch {
		case err != nil:
			return m, err
		case item.Kind == api.LBoot && item.Epoch != m.epoch()+1:
			return m, api.ErrItem
		case item.Kind == api.LBoot:
			m.boot()
			continue
		}
		e := api.Edit{Tag: item.Tag, Op: item.Op}
		if bad := m.check(e); bad != api.OK {
			return m, bad
		}
		m.add(e)
	}
	return m, nil
}

// wantOpen ends the test unless a disk of these payloads, and other bytes behind them, is opened as the model tells. It gives the error.
func wantOpen(t *testing.T, synced int, payloads [][]byte, behind []byte) error {
	t.Helper()
	image := append(imageOf(payloads...), behind...)
	m, reason := openAs(payloads)
	_, want := wal.Open(diskOf(t, image, len(image)))
	if reason != nil {
		want = &api.Fault{At: len(imageOfItems(m.items...)), Err: reason}
	}
	d := diskOf(t, image, min(synced, len(image)))
	firm := d.Synced()
	b, err := open(t, d)
	wantError(t, "P12.6: Open", err, want)
	if err != nil && api.Place(err) != d.Size() {
		t.Fatalf("P12.6: the disk has %d bytes, and the error is %v", d.Size(), err)
	}
	if d.Synced() != min(firm, d.Size()) {
		t.Fatalf("P12.6: Open syncs: %d bytes were synced, %d of %d are", firm, d.Synced(), d.Size())
	}
	b.Sync()
	m.synced = len(m.items)
	p := &pair{b, d, m}
	p.wantSame(t, "P12.6: Open")
	return err
}

// good gives a boot of epoch 1 and three edits: "a" by 1, "b" by 2, "c" by 1.
func good() [][]byte {
	return [][]byte{{1, 1}, {2, 0, 0, 1, 0, 0, 'a', 1, 1}, {2, 0, 0, 1, 0, 0, 'b', 2, 1}, {2, 0, 0, 1, 0, 1, 'c', 1, 2}}
}

func TestExamplesOfOpen(t *testing.T) {
	first := []byte{2, 0, 0, 1, 0, 0, 0x61, 1, 1}
	for _, c := range []struct {
		payloads [][]byte
		behind   string
		want     error
	}{
		{[][]byte{{1, 1}, {1, 3}}, "", api.Wrap(10, api.ErrItem)},
		{[][]byte{first}, "", api.Wrap(0, api.ErrUnborn)},
		{[][]byte{{7}}, "", &api.Fault{At: 0, Err: api.Wrap(0, api.ErrMsgKind)}},
		{[][]byte{{1, 1}, {1, 3}}, "\x01\x02\x03", api.Wrap(10, api.ErrItem)},
		{[][]byte{{1, 1}, {1, 2}}, "\x01\x02\x03", api.Wrap(20, api.ErrTorn)},
	} {
		wantError(t, "P12.6: example 9", wantOpen(t, 1000, c.payloads, []byte(c.behind)), c.want)
	}
}

// TestReasons lays each thing that cannot stand behind a good beginning, with good items and bad bytes behind it.
func TestReasons(t *testing.T) {
	for _, c := range []struct {
		payload []byte
		reason  error
	}{
		{[]byte{1, 0}, api.Wrap(1, api.ErrField)},
		{[]byte{1, 1}, api.ErrItem},
		{[]byte{1, 3}, api.ErrItem},
		{[]byte{1, 255}, api.ErrItem},
		{[]byte{1}, api.Wrap(1, api.ErrLength)},
		{[]byte{1, 2, 0}, api.Wrap(3, api.ErrLength)},
		{[]byte{0}, api.Wrap(0, api.ErrMsgKind)},
		{[]byte{3, 0, 1, 1}, api.Wrap(0, api.ErrMsgKind)},
		{bytes.Repeat([]byte{255}, 64), api.Wrap(0, api.ErrMsgKind)},
		{[]byte{2, 0, 3, 1, 0, 0, 'd', 1}, api.Wrap(8, api.ErrLength)},
		{[]byte{2, 0x10, 1, 1, 0, 0, 'd', 1, 3}, api.Wrap(1, api.ErrField)},
		{[]byte{2, 0, 3, 3, 0, 0, 'd', 1, 3}, api.Wrap(3, api.ErrField)},
		{[]byte{2, 0, 3, 1, 0x10, 0, 'd', 1, 3}, api.Wrap(4, api.ErrField)},
		{[]byte{2, 0, 3, 1, 0, 0, 31, 1, 3}, api.Wrap(6, api.ErrField)},
		{[]byte{2, 0, 3, 1, 0, 0, 'd', 65, 3}, api.Wrap(7, api.ErrField)},
		{[]byte{2, 0, 3, 1, 0, 0, 'd', 1, 65}, api.Wrap(8, api.ErrField)},
		{[]byte{2, 0, 3, 0, 0, 0, 0, 1, 3}, api.ErrNoEdit},
		{[]byte{2, 0, 3, 1, 0, 0, 'd', 1, 2}, api.ErrDone},
		{[]byte{2, 0, 0, 1, 0, 0, 'a', 1, 1}, api.ErrDone},
		{[]byte{2, 0, 3, 1, 0, 0, 'd', 1, 4}, api.ErrTurn},
		{[]byte{2, 0, 4, 1, 0, 0, 'd', 1, 3}, api.ErrTag},
		{[]byte{2, 0, 3, 1, 0, 4, 'd', 1, 3}, api.ErrPlace},
		{[]byte{2, 0, 0, 1, 0, 3, 'd', 1, 3}, api.ErrPlace},
		{[]byte{2, 0, 0, 2, 0, 1, 0, 2, 2}, api.ErrPlace},
	} {
		want := &api.Fault{At: 61, Err: c.reason}
		for _, behind := range []string{"", "\x00", "\x00\x01\xFF\xFEA...."} {
			payloads := append(good(), c.payload)
			wantError(t, "P12.6: at the end", wantOpen(t, 1000, payloads, []byte(behind)), want)
			payloads = append(payloads, []byte{1, 2}, []byte{2, 0, 3, 1, 0, 0, 'd', 3, 1})
			wantError(t, "P12.6: items behind it are not looked at", wantOpen(t, 1000, payloads, []byte(behind)), want)
		}
		for synced := range 80 {
			wantError(t, "P12.6: unsynced bytes", wantOpen(t, synced, append(good(), c.payload), nil), want)
		}
	}
}

// TestTheLogsOwnErrors: what wal.Open cuts behind good items is told as wal.Open tells it.
func TestTheLogsOwnErrors(t *testing.T) {
	for _, c := range []struct {
		behind string
		reason api.Errno
	}{{"", api.OK}, {"\x00", api.ErrTorn}, {"\x00\x01\xFF\xFE", api.ErrTorn}, {"\x00\x00\xFF\xFF", api.ErrHead}, {"\x00\x01\xFF\xFEA....", api.ErrRecord}} {
		for n := range len(good()) + 1 {
			var want error
			if c.behind != "" {
				want = api.Wrap(len(imageOf(good()[:n]...)), c.reason)
			}
			for _, synced := range []int{0, 12, 1000} {
				wantError(t, "P12.6: the log's own error", wantOpen(t, synced, good()[:n], []byte(c.behind)), want)
			}
		}
	}
}

// TestAllShortImages opens disks with every list of up to four of these payloads.
func TestAllShortImages(t *testing.T) {
	parts := [][]byte{
		{1, 1}, {1, 2}, {1, 3}, {1, 0}, {9},
		{2, 0, 0, 1, 0, 0, 'a', 1, 1}, {2, 0, 0, 1, 0, 0, 'b', 2, 1}, {2, 0, 1, 2, 0, 0, 0, 2, 1}, {2, 0, 0, 1, 0, 1, 'c', 1, 2},
		{2, 0, 1, 2, 0, 0, 0, 1, 2}, {2, 0, 2, 1, 0, 1, 'd', 2, 2}, {2, 0, 0, 0, 0, 0, 0, 3, 1},
	}
	opened := map[api.Errno]int{}
	count := 1
	for length := range 5 {
		for n := range count {
			var payloads [][]byte
			for rest, k := n, 0; k < length; k++ {
				payloads = append(payloads, parts[rest%len(parts)])
				rest /= len(parts)
			}
			opened[api.Code(wantOpen(t, n%70, payloads, nil))]++
		}
		count *= len(parts)
	}
	for _, e := range []api.Errno{api.OK, api.ErrUnborn, api.ErrItem, api.ErrField, api.ErrMsgKind, api.ErrNoEdit, api.ErrDone, api.ErrTurn, api.ErrTag, api.ErrPlace} {
		if opened[e] == 0 {
			t.Errorf("the images tell too little: the error %d never came", e)
		}
	}
}

// TestChangedPayloads: a log one byte of whose payloads is another, with the right sum.
func TestChangedPayloads(t *testing.T) {
	for seed := range 60 {
		r := dice(seed)
		p := played(t, r, 3, 15)
		var payloads [][]byte
		for _, x := range p.m.items {
			payloads = append(payloads, payloadOf(x))
		}
		for range 20 {
			n := r.IntN(len(payloads))
			kept := payloads[n]
			payloads[n] = bytes.Clone(kept)
			payloads[n][r.IntN(len(kept))] ^= byte(1 << r.IntN(8))
			wantOpen(t, r.IntN(300), payloads, nil)
			payloads[n] = kept
		}
	}
}

// TestAnyBytes: whatever lies on a disk, there is a book, and what it keeps is opened again without a cut.
func TestAnyBytes(t *testing.T) {
	for seed := range 300 {
		r := dice(seed)
		b := make([]byte, r.IntN(200))
		for i := range b {
			b[i] = byte(r.Uint32() >> r.IntN(32))
		}
		wantOpen(t, 1000, nil, b)
		wantOpen(t, r.IntN(200), good(), b)
		var payloads [][]byte
		for range r.IntN(6) {
			p := make([]byte, 1+r.IntN(10))
			for i := range p {
				p[i] = byte(r.IntN(4))
			}
			payloads = append(payloads, p)
		}
		wantOpen(t, r.IntN(200), append([][]byte{{1, 1}}, payloads...), b)
	}
}

// TestFullDisks: a disk without room that holds few items or none that can stand.
func TestFullDisks(t *testing.T) {
	b, err := open(t, diskOf(t, make([]byte, api.MaxDisk), api.MaxDisk))
	wantError(t, "P12.6: nothing but zeros", err, api.Wrap(0, api.ErrHead))
	wantBoot(t, b, 1)
	var payloads [][]byte
	for n := range api.MaxDisk / 10 {
		payloads = append(payloads, []byte{1, byte(1 + n%255)})
	}
	d := diskOf(t, imageOf(payloads...), 5000)
	b, err = open(t, d)
	wantError(t, "P12.6: all the boots that can be, and more", err, api.Wrap(2550, api.ErrItem))
	if b.Epoch() != 255 || d.Size() != 2550 || d.Synced() != 2550 {
		t.Errorf("P12.6: Epoch %d, the disk %d bytes, %d synced", b.Epoch(), d.Size(), d.Synced())
	}
}

// TestOpenedAgain: what was cut stays cut, and a second opening finds nothing wrong.
func TestOpenedAgain(t *testing.T) {
	d := diskOf(t, append(imageOf(append(good(), []byte{1, 9})...), 1, 2, 3), 20)
	b, err := open(t, d)
	wantError(t, "P12.6", err, api.Wrap(61, api.ErrItem))
	before := see(b, d)
	b, err = open(t, d)
	wantError(t, "P12.6: again", err, nil)
	wantSeen(t, "P12.6: again", see(b, d), before)
	wantBoot(t, b, 2)
	wantAdd(t, b, edit(3, ins(3, 'd', 3, 1)), 4, ins(3, 'd', 3, 1), "abcd")
	if !bytes.Equal(d.Bytes(), imageOf(append(good(), []byte{1, 2}, []byte{2, 0, 3, 1, 0, 3, 'd', 3, 1})...)) {
		t.Errorf("P12.11: the disk has % x", d.Bytes())
	}
	copied, _ := disk.From(d.Bytes())
	b, err = open(t, copied)
	wantError(t, "P12.8: a copy", err, nil)
	if b.Revs() != 4 || b.Synced() != 4 || b.Epoch() != 2 {
		t.Errorf("P12.8: a copy: %s", see(b, copied))
	}
}
