package wal_test

import (
	"math/rand/v2"
	"testing"

	"jotter/api"
	"jotter/disk"
	"jotter/wal"
)

// model is a log told in the plainest way: its payloads, and how many of them are synced.
type model struct {
	payloads []string
	synced   int
}

// playOne does one call to both, and fails the test where they answer differently.
func playOne(t *testing.T, r *rand.Rand, l *wal.Log, m *model) {
	t.Helper()
	count := len(m.payloads)
	switch r.IntN(6) {
	case 0, 1, 2:
		p := payload(r)
		put(t, l, p)
		m.payloads = append(m.payloads, p)
	case 3:
		if n := l.Sync(); n != count-m.synced {
			t.Errorf("P3.5: Sync = %d, want %d", n, count-m.synced)
		}
		m.synced = count
	case 4:
		n := r.IntN(count+4) - 1
		err := l.Trim(n)
		if n < 0 || n > count {
			wantSelf(t, "P3.6: Trim", err, api.ErrTrim)
			return
		}
		wantWhy(t, "P3.6: Trim", err, api.OK, 0)
		m.payloads, m.synced = m.payloads[:n], min(m.synced, n)
	default:
		wantSelf(t, "P3.4: Append", l.Append(make([]byte, 65*r.IntN(2))), api.ErrPayload)
	}
}

// played gives a log that some calls were made on, and its model.
func played(t *testing.T, r *rand.Rand, calls int) (*wal.Log, *disk.Disk, *model) {
	t.Helper()
	l, d, _ := opened(t, "")
	m := &model{}
	for range calls {
		playOne(t, r, l, m)
		wantLog(t, "P3.8: against the model", l, d, m.synced, m.payloads...)
	}
	return l, d, m
}

func TestAgainstModel(t *testing.T) {
	for seed := range 200 {
		_, d, m := played(t, dice(seed), 40)
		again, err := wal.Open(d)
		wantWhy(t, "P3.8: opened again", err, api.OK, 0)
		wantLog(t, "P3.8: opened again", again, d, m.synced, m.payloads...)
	}
}

// tailed gives a disk with two synced records and three behind them that are not.
func tailed(t *testing.T) (*wal.Log, *disk.Disk, []string) {
	t.Helper()
	payloads := []string{"synced", "too", "u", "\x00\x01\xFF\xFE", "last one"}
	l, d, _ := opened(t, "")
	put(t, l, payloads[:2]...)
	l.Sync()
	put(t, l, payloads[2:]...)
	return l, d, payloads
}

// wantBehindCrash fails the test unless the log that is opened then holds the records that are whole and not garbled up to the first that is not.
func wantBehindCrash(t *testing.T, keep, at, mask int) {
	t.Helper()
	_, d, payloads := tailed(t)
	synced := d.Synced()
	if e := d.Crash(keep, at, mask); e != api.OK {
		t.Fatalf("disk.Crash(%d, %d, %d) = %d", keep, at, mask, e)
	}
	good := synced + keep
	if mask != 0 {
		good = synced + at
	}
	whole := 2
	for whole < len(payloads) && len(imageOf(payloads[:whole+1]...)) <= good {
		whole++
	}
	l, err := wal.Open(d)
	wantLog(t, "P3.9: behind a crash", l, d, whole, payloads[:whole]...)
	if cut := len(imageOf(payloads[:whole]...)) < synced+keep; cut != (err != nil) {
		t.Errorf("P3.9: behind Crash(%d, %d, %d) Open answers %v", keep, at, mask, err)
	}
}

func TestEveryCrash(t *testing.T) {
	_, d, _ := tailed(t)
	tail := d.Size() - d.Synced()
	for keep := range tail + 1 {
		wantBehindCrash(t, keep, 0, 0)
		for at := range keep {
			for _, mask := range []int{1, 2, 0x40, 0x80, 255} {
				wantBehindCrash(t, keep, at, mask)
			}
		}
	}
}

// crash lets the disk crash in any way that it takes.
func crash(t *testing.T, r *rand.Rand, d *disk.Disk) {
	t.Helper()
	keep, at, mask := r.IntN(d.Size()-d.Synced()+1), 0, 0
	if keep > 0 {
		at, mask = r.IntN(keep), r.IntN(256)
	}
	if e := d.Crash(keep, at, mask); e != api.OK {
		t.Fatalf("disk.Crash(%d, %d, %d) = %d", keep, at, mask, e)
	}
}

func TestCrashesOneBehindTheOther(t *testing.T) {
	for seed := range 100 {
		r := dice(seed)
		l, d, m := played(t, r, 8)
		for range 10 {
			crash(t, r, d)
			l, _ = wal.Open(d)
			if l.Count() < m.synced || l.Count() > len(m.payloads) {
				t.Fatalf("P3.9: %d of %d payloads are left, %d were synced", l.Count(), len(m.payloads), m.synced)
			}
			m = &model{m.payloads[:l.Count()], l.Count()}
			wantLog(t, "P3.9: behind a crash", l, d, m.synced, m.payloads...)
			for range 8 {
				playOne(t, r, l, m)
			}
		}
	}
}
