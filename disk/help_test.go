package disk_test

import (
	"math/rand/v2"
	"strconv"
	"testing"

	"jotter/api"
	"jotter/disk"
)

// wantFile fails the test unless the file has those bytes, so many of them synced.
func wantFile(t *testing.T, what string, d *disk.Disk, b string, synced int) {
	t.Helper()
	if got := string(d.Bytes()); got != b || d.Size() != len(b) || d.Synced() != synced {
		t.Errorf("%s: Bytes %s, Size %d, Synced %d, want %s, %d, %d", what, brief(got), d.Size(), d.Synced(), brief(b), len(b), synced)
	}
}

// brief quotes the beginning of a text, because some files here are long.
func brief(s string) string { return strconv.Quote(s[:min(len(s), 60)]) }

// wantErr fails the test unless a call answered that number.
func wantErr(t *testing.T, what string, got, want api.Errno) {
	t.Helper()
	if got != want {
		t.Errorf("%s = %d, want %d", what, got, want)
	}
}

// laid gives the file of the first example: "abc" synced, "defg" behind it not.
func laid(t *testing.T) *disk.Disk {
	t.Helper()
	d := disk.New()
	wantErr(t, "P2.3: Append", d.Append([]byte("abc")), api.OK)
	d.Sync()
	wantErr(t, "P2.3: Append", d.Append([]byte("defg")), api.OK)
	return d
}

// dice gives numbers that look mixed, the same at every run.
func dice(seed int) *rand.Rand { return rand.New(rand.NewPCG(uint64(seed), 0)) }

// some gives n mixed bytes.
func some(r *rand.Rand, n int) []byte {
	b := make([]byte, n)
	for i := range b {
		b[i] = byte(r.Uint32())
	}
	return b
}
