package wal_test

import (
	"bytes"
	"math"
	"strings"
	"testing"

	"jotter/api"
	"jotter/disk"
	"jotter/wal"
)

func TestOpenOfGoodDisks(t *testing.T) {
	l, d, err := opened(t, "")
	wantWhy(t, "P3.3: an empty disk", err, api.OK, 0)
	wantLog(t, "P3.3: an empty disk", l, d, 0)
	l, d, err = opened(t, imageOf("A", "BC"))
	wantWhy(t, "P3.3: two records", err, api.OK, 0)
	wantLog(t, "P3.3: two records", l, d, 2, "A", "BC")
}

func TestOpenCuts(t *testing.T) {
	for _, c := range []struct {
		what, behind string
		reason       api.Errno
	}{
		{"a torn head", "\x00\x01\xFF", api.ErrTorn},
		{"a torn record", recordOf("D")[:8], api.ErrTorn},
		{"no head", "\x00\x00\x00\x00" + recordOf("D"), api.ErrHead},
		{"a wrong sum", "\x00\x01\xFF\xFED...." + recordOf("E"), api.ErrRecord},
	} {
		l, d, err := opened(t, imageOf("A", "BC")+c.behind)
		wantWhy(t, "P3.3: "+c.what, err, c.reason, 19)
		wantLog(t, "P3.3: "+c.what, l, d, 2, "A", "BC")
		l, d, err = opened(t, c.behind)
		wantWhy(t, "P3.3: nothing but "+c.what, err, c.reason, 0)
		wantLog(t, "P3.3: nothing but "+c.what, l, d, 0)
	}
}

func TestOpenScansUnsyncedBytesToo(t *testing.T) {
	d, _ := disk.From([]byte(recordOf("A")))
	d.Append([]byte(imageOf("BC", "D") + "\x00\x01"))
	l, err := wal.Open(d)
	wantWhy(t, "P3.3: unsynced bytes", err, api.ErrTorn, 28)
	wantLog(t, "P3.3: unsynced bytes", l, d, 1, "A", "BC", "D")
	if d.Synced() != 9 {
		t.Errorf("P3.3: Open left %d bytes synced, want 9", d.Synced())
	}
}

func TestOpenWorksOnItsDisk(t *testing.T) {
	l, d, _ := opened(t, recordOf("A"))
	other, e, _ := opened(t, recordOf("A"))
	put(t, l, "BC")
	wantLog(t, "P3.3: the log that was written", l, d, 1, "A", "BC")
	wantLog(t, "P3.3: another log", other, e, 1, "A")
}

func TestAppend(t *testing.T) {
	l, d, _ := opened(t, "")
	put(t, l, "A", strings.Repeat("b", 64), "\x00")
	wantLog(t, "P3.4: three payloads", l, d, 0, "A", strings.Repeat("b", 64), "\x00")
	if d.Synced() != 0 {
		t.Errorf("P3.4: Append left %d bytes synced", d.Synced())
	}
}

func TestAppendRefuses(t *testing.T) {
	l, d := example(t)
	for _, n := range []int{0, 65, 66, 65537, api.MaxDisk + 1} {
		wantSelf(t, "P3.4: Append", l.Append(make([]byte, n)), api.ErrPayload)
	}
	wantSelf(t, "P3.4: Append(nil)", l.Append(nil), api.ErrPayload)
	wantLog(t, "P3.4: behind refused payloads", l, d, 2, "A", "BC", "D")
	if d.Synced() != 19 {
		t.Errorf("P3.4: a refused Append left %d bytes synced, want 19", d.Synced())
	}
}

func TestAppendToFullDisk(t *testing.T) {
	long := strings.Repeat("f", 64)
	l, d, _ := opened(t, "")
	for d.Size()+72 <= api.MaxDisk {
		put(t, l, long)
	}
	left := api.MaxDisk - d.Size()
	count := l.Count()
	for _, n := range []int{left - 7, 64} {
		wantSelf(t, "P3.4: a full disk", l.Append([]byte(long[:n])), api.ErrDiskFull)
	}
	wantSelf(t, "P3.4: 65 bytes, a full disk", l.Append([]byte(long+"f")), api.ErrPayload)
	wantSelf(t, "P3.4: no bytes, a full disk", l.Append(nil), api.ErrPayload)
	if l.Count() != count || d.Size() != api.MaxDisk-left || l.Synced() != 0 || d.Synced() != 0 {
		t.Errorf("P3.4: refused, but Count %d, Synced %d, the disk %d, %d", l.Count(), l.Synced(), d.Size(), d.Synced())
	}
	put(t, l, long[:left-8])
	if l.Count() != count+1 || d.Size() != api.MaxDisk {
		t.Errorf("P3.4: the last bytes: Count %d, the disk %d", l.Count(), d.Size())
	}
	wantSelf(t, "P3.4: one byte, a full disk", l.Append([]byte("1")), api.ErrDiskFull)
	if n := l.Sync(); n != count+1 {
		t.Errorf("P3.5: Sync of a full disk = %d, want %d", n, count+1)
	}
}

func TestAppendMemory(t *testing.T) {
	l, d, _ := opened(t, "")
	room := []byte("abc.....................")
	if err := l.Append(room[:3]); err != nil || string(room) != "abc....................." {
		t.Errorf("P0.2: Append answers %v, its argument is now %q", err, room)
	}
	clear(room)
	wantLog(t, "P0.2: the argument changed behind Append", l, d, 0, "abc")
}

func TestSync(t *testing.T) {
	l, d, _ := opened(t, "")
	for i, c := range []struct {
		add  []string
		want int
	}{{nil, 0}, {[]string{"A"}, 1}, {nil, 0}, {[]string{"BC", "D", "E"}, 3}, {nil, 0}} {
		put(t, l, c.add...)
		if n := l.Sync(); n != c.want || l.Synced() != l.Count() || d.Synced() != d.Size() {
			t.Errorf("P3.5: Sync %d = %d, want %d; Synced %d of %d", i, n, c.want, l.Synced(), l.Count())
		}
	}
	wantLog(t, "P3.5: behind all", l, d, 4, "A", "BC", "D", "E")
}

func TestSyncedCountsWholeRecords(t *testing.T) {
	image := imageOf("A", "BC", "D")
	for synced, want := range map[int]int{0: 0, 1: 0, 8: 0, 9: 1, 10: 1, 18: 1, 19: 2, 27: 2, 28: 3} {
		d, _ := disk.From([]byte(image[:synced]))
		d.Append([]byte(image[synced:]))
		l, err := wal.Open(d)
		wantWhy(t, "P3.3: synced up to any place", err, api.OK, 0)
		wantLog(t, "P3.7: synced up to any place", l, d, want, "A", "BC", "D")
		if n := l.Sync(); n != 3-want {
			t.Errorf("P3.5: Sync with %d bytes synced = %d, want %d", synced, n, 3-want)
		}
	}
}

func TestTrim(t *testing.T) {
	for n, synced := range []int{0, 1, 2, 2} {
		l, d := example(t)
		if err := l.Trim(n); err != nil {
			t.Errorf("P3.6: Trim(%d) = %v", n, err)
		}
		kept := []string{"A", "BC", "D"}[:n]
		wantLog(t, "P3.6: Trim", l, d, synced, kept...)
		if want := min(19, len(imageOf(kept...))); d.Synced() != want {
			t.Errorf("P3.6: Trim(%d) left %d bytes synced, want %d", n, d.Synced(), want)
		}
		put(t, l, "new")
		wantLog(t, "P3.6: Append behind Trim", l, d, synced, append(kept, "new")...)
	}
}

func TestTrimRefuses(t *testing.T) {
	l, d := example(t)
	for _, n := range []int{-1, 4, 5, math.MinInt, math.MaxInt} {
		wantSelf(t, "P3.6: Trim", l.Trim(n), api.ErrTrim)
	}
	wantLog(t, "P3.6: behind refused trims", l, d, 2, "A", "BC", "D")
	empty, e, _ := opened(t, "")
	wantSelf(t, "P3.6: Trim(1) of an empty log", empty.Trim(1), api.ErrTrim)
	if err := empty.Trim(0); err != nil {
		t.Errorf("P3.6: Trim(0) of an empty log = %v", err)
	}
	wantLog(t, "P3.6: an empty log", empty, e, 0)
}

func TestGetRefuses(t *testing.T) {
	l, d := example(t)
	for _, i := range []int{-1, 3, 4, math.MinInt, math.MaxInt} {
		b, err := l.Get(i)
		if b != nil {
			t.Errorf("P3.7: Get(%d) = %q", i, b)
		}
		wantSelf(t, "P3.7: Get", err, api.ErrIndex)
	}
	wantLog(t, "P3.7: behind refused gets", l, d, 2, "A", "BC", "D")
}

func TestAnswersAreNewMemory(t *testing.T) {
	l, d := example(t)
	one, _ := l.Get(1)
	two, _ := l.Get(1)
	clear(one[:cap(one)])
	if string(two) != "BC" {
		t.Errorf("P3.7: two Gets share memory: %q", two)
	}
	all, again := l.All(), l.All()
	_ = append(all[0], bytes.Repeat([]byte("#"), 80)...)
	clear(all[1][:cap(all[1])])
	if string(all[2]) != "D" || string(again[1]) != "BC" {
		t.Errorf("P3.7: lists of All share memory: %q, %q", all, again)
	}
	clear(all)
	wantLog(t, "P3.7: behind writing into answers", l, d, 2, "A", "BC", "D")
}

// crashed gives the log that is opened behind a crash of the example's disk.
func crashed(t *testing.T, keep, at, mask int) (*wal.Log, *disk.Disk, error) {
	t.Helper()
	_, d := example(t)
	if e := d.Crash(keep, at, mask); e != api.OK {
		t.Fatalf("disk.Crash(%d, %d, %d) = %d", keep, at, mask, e)
	}
	l, err := wal.Open(d)
	return l, d, err
}

func TestCrashExamples(t *testing.T) {
	l, d, err := crashed(t, 5, 0, 0)
	wantWhy(t, "P3.9: 5 bytes kept", err, api.ErrTorn, 19)
	wantLog(t, "P3.9: 5 bytes kept", l, d, 2, "A", "BC")
	put(t, l, "E")
	wantLog(t, "P3.4: behind the opening", l, d, 2, "A", "BC", "E")
	if err := l.Trim(1); err != nil {
		t.Errorf("P3.6: Trim(1) = %v", err)
	}
	wantLog(t, "P3.6: Trim(1)", l, d, 1, "A")
	wantSelf(t, "P3.6: Trim(2)", l.Trim(2), api.ErrTrim)
	l, d, err = crashed(t, 9, 4, 1)
	wantWhy(t, "P3.9: all kept, one garbled", err, api.ErrRecord, 19)
	wantLog(t, "P3.9: all kept, one garbled", l, d, 2, "A", "BC")
	l, d, err = crashed(t, 9, 0, 0)
	wantWhy(t, "P3.9: all kept", err, api.OK, 0)
	wantLog(t, "P3.9: all kept", l, d, 3, "A", "BC", "D")
}
