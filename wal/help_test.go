package wal_test

import (
	"encoding/binary"
	"errors"
	"hash/crc32"
	"math/rand/v2"
	"slices"
	"strings"
	"testing"

	"jotter/api"
	"jotter/disk"
	"jotter/wal"
)

// recordOf lays a record as the chapter's table says it, by other means than the program's. It takes any payload, those that may not be too.
func recordOf(payload string) string {
	b := binary.BigEndian.AppendUint16(nil, uint16(len(payload)))
	b = binary.BigEndian.AppendUint16(b, uint16(65535-len(payload)))
	b = append(b, payload...)
	return string(binary.LittleEndian.AppendUint32(b, crc32.ChecksumIEEE(b)))
}

// imageOf lays records one behind the other.
func imageOf(payloads ...string) string {
	var b strings.Builder
	for _, p := range payloads {
		b.WriteString(recordOf(p))
	}
	return b.String()
}

// wantWhy fails the test unless err is a *api.Fault of that number and place, or nil where the number is OK.
func wantWhy(t *testing.T, what string, err error, want api.Errno, at int) {
	t.Helper()
	if want == api.OK {
		if err != nil {
			t.Errorf("%s: error %v, want none", what, err)
		}
		return
	}
	var f *api.Fault
	if !errors.As(err, &f) || f.At != at || f.Err != want {
		t.Errorf("%s: error %v, want a Fault of %v at %d", what, err, want, at)
	}
}

// wantSelf fails the test unless err is that number itself, not wrapped.
func wantSelf(t *testing.T, what string, err error, want api.Errno) {
	t.Helper()
	if err != want {
		t.Errorf("%s: error %v, want %v itself", what, err, want)
	}
}

// wantScan fails the test unless Scan gives those payloads and ends behind them for that reason.
func wantScan(t *testing.T, what, image string, reason api.Errno, payloads ...string) {
	t.Helper()
	got, good, err := wal.Scan([]byte(image))
	if !slices.Equal(texts(got), payloads) || good != len(imageOf(payloads...)) {
		t.Errorf("%s: Scan = %q, %d, want %q, %d", what, got, good, payloads, len(imageOf(payloads...)))
	}
	wantWhy(t, what, err, reason, good)
}

// wantLog fails the test unless the log and its disk tell those payloads, so many of them synced.
func wantLog(t *testing.T, what string, l *wal.Log, d *disk.Disk, synced int, payloads ...string) {
	t.Helper()
	if got := texts(l.All()); !slices.Equal(got, payloads) {
		t.Errorf("%s: P3.7: All = %q, want %q", what, got, payloads)
	}
	if l.Count() != len(payloads) || l.Synced() != synced {
		t.Errorf("%s: P3.7: Count %d, Synced %d, want %d, %d", what, l.Count(), l.Synced(), len(payloads), synced)
	}
	for i, want := range payloads {
		if got, err := l.Get(i); string(got) != want || err != nil {
			t.Errorf("%s: P3.7: Get(%d) = %q, %v, want %q", what, i, got, err, want)
		}
	}
	if got, want := string(d.Bytes()), imageOf(payloads...); got != want {
		t.Errorf("%s: P3.8: the disk has % X, want % X", what, got, want)
	}
}

func texts(list [][]byte) []string {
	out := make([]string, len(list))
	for i, b := range list {
		out[i] = string(b)
	}
	return out
}

// opened gives a log on a disk with that image, all of it synced.
func opened(t *testing.T, image string) (*wal.Log, *disk.Disk, error) {
	t.Helper()
	d, e := disk.From([]byte(image))
	if e != api.OK {
		t.Fatalf("disk.From = %d", e)
	}
	l, err := wal.Open(d)
	if l == nil {
		t.Fatalf("P3.3: Open answers no log, %v", err)
	}
	return l, d, err
}

// put appends payloads that must be taken.
func put(t *testing.T, l *wal.Log, payloads ...string) {
	t.Helper()
	for _, p := range payloads {
		if err := l.Append([]byte(p)); err != nil {
			t.Fatalf("P3.4: Append(%q) = %v", p, err)
		}
	}
}

// example gives the log of the chapter's example 5: "A" and "BC" synced, "D" behind them not.
func example(t *testing.T) (*wal.Log, *disk.Disk) {
	t.Helper()
	l, d, _ := opened(t, "")
	put(t, l, "A", "BC")
	if n := l.Sync(); n != 2 {
		t.Errorf("P3.5: Sync = %d, want 2", n)
	}
	put(t, l, "D")
	return l, d
}

func dice(seed int) *rand.Rand { return rand.New(rand.NewPCG(uint64(seed), 3)) }

// payload gives mixed bytes, often very few or nearly too many.
func payload(r *rand.Rand) string {
	n := []int{1, 2, 1 + r.IntN(api.MaxPayload), api.MaxPayload}[r.IntN(4)]
	var b strings.Builder
	for range n {
		b.WriteByte(byte(r.Uint32()))
	}
	return b.String()
}
