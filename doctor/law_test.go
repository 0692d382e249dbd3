package doctor_test

import (
	"bytes"
	"slices"
	"sync"
	"testing"

	"jotter/api"
	"jotter/book"
	"jotter/disk"
	"jotter/doctor"
)

// images gives many bytes: none, whole logs, logs that are spoilt, and bytes of any kind.
func images(t *testing.T, seed int) [][]byte {
	t.Helper()
	r := dice(seed)
	list := [][]byte{nil, logA(), logA()[10:], make([]byte, 300), make([]byte, api.MaxDisk+1)}
	for range 300 {
		list = append(list, mixed(t, r), written(t, r, 1+r.IntN(5), r.IntN(20)), anyBytes(r, 100))
	}
	return list
}

// TestEveryByteOnce: findings lie one behind the other, from the beginning to the end, and tell of what they are nothing but what is named.
func TestEveryByteOnce(t *testing.T) {
	for _, b := range images(t, 6) {
		end := 0
		for _, f := range doctor.Look(b) {
			if f.At != end || f.Size < 1 {
				t.Fatalf("P26.9: %s: %s", hexWord(b), findingsWord(doctor.Look(b)))
			}
			boot := f.Kind == api.LBoot && f.Size == 10 && f.Epoch > 0 && f.Rev == 0 && f.Err == api.OK
			edit := f.Kind == api.LEdit && f.Size == 17 && f.Epoch == 0 && f.Rev > 0 && f.Err == api.OK
			none := f.Kind == 0 && f.Epoch == 0 && f.Rev == 0 && f.Err != api.OK
			if !boot && !edit && !none {
				t.Fatalf("P26.2: %s: %s", hexWord(b), findingsWord([]api.Finding{f}))
			}
			end += f.Size
		}
		if end != len(b) {
			t.Fatalf("P26.9: %s: the findings end at %d", hexWord(b), end)
		}
	}
}

// TestNumbersRise: epochs and records of what is taken are 1, 2, 3 and on.
func TestNumbersRise(t *testing.T) {
	for _, b := range images(t, 7) {
		epoch, rev := 0, 0
		for _, f := range doctor.Look(b) {
			switch f.Kind {
			case api.LBoot:
				epoch++
			case api.LEdit:
				rev++
			}
			if f.Kind == api.LBoot && f.Epoch != epoch || f.Kind == api.LEdit && f.Rev != rev {
				t.Fatalf("P26.2: %s: %s", hexWord(b), findingsWord(doctor.Look(b)))
			}
		}
	}
}

// TestAsABookOpens: the good part is what a book keeps, and what a book cuts for is the first stretch that is none.
func TestAsABookOpens(t *testing.T) {
	cut := 0
	for _, b := range images(t, 8) {
		if len(b) > api.MaxDisk {
			continue
		}
		kept, err := opened(t, b)
		got, lost := doctor.Repair(b)
		if !bytes.Equal(got, kept) || lost != len(b)-len(kept) {
			t.Fatalf("P26.4: %s: Repair = %s, %d, a book keeps %s", hexWord(b), hexWord(got), lost, hexWord(kept))
		}
		if doctor.Sound(b) != (err == nil) {
			t.Fatalf("P26.3: %s: Sound = %t, a book tells %v", hexWord(b), err != nil, err)
		}
		list := doctor.Look(b)
		first := slices.IndexFunc(list, func(f api.Finding) bool { return f.Kind == 0 })
		if (first < 0) != (err == nil) || first >= 0 && (list[first].At != api.Place(err) || list[first].Err != api.Code(err)) {
			t.Fatalf("P26.2: %s: Look = %s, a book tells %v", hexWord(b), findingsWord(list), err)
		}
		if err != nil {
			cut++
		}
	}
	if cut < 100 {
		t.Fatalf("the bytes tell too little: %d of them were cut", cut)
	}
}

// TestRepairedIsSound: of what Repair and Salvage give nothing is wrong any more.
func TestRepairedIsSound(t *testing.T) {
	for _, b := range images(t, 9) {
		fixed, _ := doctor.Repair(b)
		saved, more := doctor.Salvage(b)
		for _, x := range [][]byte{fixed, saved} {
			again, lost := doctor.Repair(x)
			if !doctor.Sound(x) || !bytes.Equal(again, x) || lost != 0 {
				t.Fatalf("P26.10: %s gives %s, which is not sound", hexWord(b), hexWord(x))
			}
		}
		if !bytes.HasPrefix(saved, fixed) {
			t.Fatalf("P26.10: %s: the good part %s is not the beginning of %s", hexWord(b), hexWord(fixed), hexWord(saved))
		}
		if count := len(doctor.Look(saved)) - len(doctor.Look(fixed)); more != count {
			t.Fatalf("P26.5: %s: Salvage tells %d items, and gives %d", hexWord(b), more, count)
		}
	}
}

// TestThereAndBack: a dump is loaded as what was dumped, and dumped again as the same text.
func TestThereAndBack(t *testing.T) {
	for _, b := range images(t, 10) {
		fixed, _ := doctor.Repair(b)
		text := doctor.Dump(b)
		wantLoad(t, text, fixed)
		if again := doctor.Dump(fixed); again != text {
			t.Fatalf("P26.11: Dump of %s = %q, want %q", hexWord(fixed), again, text)
		}
	}
}

// TestTextsThereAndBack: what Load takes is dumped as that very text.
func TestTextsThereAndBack(t *testing.T) {
	r := dice(11)
	taken := 0
	for range 3000 {
		text := []byte(doctor.Dump(written(t, r, 1+r.IntN(3), r.IntN(8))))
		if len(text) > 0 {
			text[r.IntN(len(text))] = "0123456789"[r.IntN(10)]
		}
		b, err := doctor.Load(string(text))
		if err != nil {
			continue
		}
		taken++
		if again := doctor.Dump(b); again != string(text) || !doctor.Sound(b) {
			t.Fatalf("P26.11: Load(%q) gives %s, of which Dump is %q", text, hexWord(b), again)
		}
	}
	if taken < 300 {
		t.Fatalf("the texts tell too little: %d were taken", taken)
	}
}

// TestPartOfOne: a log and its own good part are the same, and Part does not mind which comes first.
func TestPartOfOne(t *testing.T) {
	for _, b := range images(t, 12) {
		fixed, _ := doctor.Repair(b)
		saved, _ := doctor.Salvage(b)
		items := len(doctor.Look(fixed))
		wantPart(t, "a log and its good part", b, fixed, items, true)
		wantPart(t, "a log and what could be saved of it", b, saved, items, true)
		wantPart(t, "a log and itself", b, b, items, true)
	}
}

// TestCrashedDisks: what a crash leaves has all that was synced in its good part, and one stretch behind it at most of the bytes that were not.
func TestCrashedDisks(t *testing.T) {
	r := dice(13)
	for range 300 {
		d := disk.New()
		b, _ := book.Open(d)
		b.Boot()
		for n := range 1 + r.IntN(12) {
			client := 1 + r.IntN(3)
			seq, _ := b.Last(client)
			b.Add(api.Edit{Tag: n, Op: ins(r.IntN(n+1), byte('a'+n), client, seq+1)})
			if r.IntN(5) == 0 {
				b.Sync()
			}
		}
		before, synced := d.Bytes(), d.Synced()
		keep := r.IntN(d.Size() - synced + 1)
		d.Crash(keep, r.IntN(max(keep, 1)), r.IntN(256)*min(keep, 1))
		fixed, lost := doctor.Repair(d.Bytes())
		if len(fixed) < synced || !bytes.HasPrefix(before, fixed) || len(fixed)+lost != d.Size() {
			t.Fatalf("P26.4: behind a crash: Repair = %s, %d of %s, %d bytes synced", hexWord(fixed), lost, hexWord(d.Bytes()), synced)
		}
		_, part := doctor.Part(before, d.Bytes())
		if !part {
			t.Fatalf("P26.8: behind a crash: %s is no part of %s", hexWord(d.Bytes()), hexWord(before))
		}
	}
}

// TestSideBySide: the same bytes asked by many at one time, between other calls, give the same.
func TestSideBySide(t *testing.T) {
	list := images(t, 14)[:60]
	var want []all
	for _, b := range list {
		want = append(want, ask(b))
	}
	same := make([]bool, 8)
	var wg sync.WaitGroup
	for i := range same {
		wg.Go(func() {
			same[i] = true
			for k := range list {
				at := (k*7 + i) % len(list)
				same[i] = same[i] && ask(list[at]).same(want[at])
				loaded, err := doctor.Load(want[at].dump)
				same[i] = same[i] && err == nil && bytes.Equal(loaded, want[at].good)
			}
		})
	}
	wg.Wait()
	if slices.Contains(same, false) {
		t.Fatal("P26.12: asked side by side it answers otherwise")
	}
}
