package disk_test

import (
	"bytes"
	"math"
	"testing"

	"jotter/api"
	"jotter/disk"
)

func TestNewIsEmpty(t *testing.T) {
	d := disk.New()
	if d == nil {
		t.Fatal("P2.1: New answers nil")
	}
	wantFile(t, "P2.1: New", d, "", 0)
	if n := d.Sync(); n != 0 {
		t.Errorf("P2.4: Sync of an empty file = %d", n)
	}
	wantErr(t, "P2.6: Cut(0) of an empty file", d.Cut(0), api.OK)
	wantErr(t, "P2.6: Cut(1) of an empty file", d.Cut(1), api.ErrCut)
	wantErr(t, "P2.7: Crash of an empty file", d.Crash(0, 5, 0), api.OK)
	wantErr(t, "P2.7: Crash(1) of an empty file", d.Crash(1, 0, 0), api.ErrKeep)
	wantErr(t, "P2.7: Crash of an empty file, garbled", d.Crash(0, 0, 1), api.ErrGarble)
	wantFile(t, "P2.1: still", d, "", 0)
}

func TestDisksShareNothing(t *testing.T) {
	b := []byte("abcdef")
	one, _ := disk.From(b)
	two, _ := disk.From(b)
	three := disk.New()
	one.Append([]byte("gh"))
	two.Append([]byte("xyz"))
	three.Append(b)
	one.Crash(2, 0, 7)
	one.Cut(1)
	one.Append([]byte("ZZZZZZZZ"))
	wantFile(t, "P2.1: the second of three", two, "abcdefxyz", 6)
	wantFile(t, "P2.1: the third of three", three, "abcdef", 0)
	two.Sync()
	wantFile(t, "P2.1: the third of three", three, "abcdef", 0)
	wantFile(t, "P2.1: the first of three", one, "aZZZZZZZZ", 1)
}

func TestFrom(t *testing.T) {
	for _, b := range [][]byte{nil, {}, {0}, []byte("abc"), []byte("a file\x00with\xffodd\nbytes")} {
		d, e := disk.From(b)
		if d == nil || e != api.OK {
			t.Fatalf("P2.2: From(%q) = %v, %d", b, d, e)
		}
		wantFile(t, "P2.2: From", d, string(b), len(b))
	}
}

func TestFromAtItsLimit(t *testing.T) {
	r := dice(1)
	b := some(r, api.MaxDisk+1)
	for _, n := range []int{api.MaxDisk - 1, api.MaxDisk} {
		d, e := disk.From(b[:n])
		if d == nil || e != api.OK {
			t.Fatalf("P2.2: From of %d bytes = %v, %d", n, d, e)
		}
		wantFile(t, "P2.2: a long file", d, string(b[:n]), n)
	}
	for _, long := range [][]byte{b, make([]byte, 4*api.MaxDisk)} {
		if d, e := disk.From(long); d != nil || e != api.ErrDiskFull {
			t.Errorf("P2.2: From of %d bytes = %v, %d", len(long), d, e)
		}
	}
}

func TestAppendAndSync(t *testing.T) {
	d := disk.New()
	wantErr(t, "P2.3: Append", d.Append([]byte("abc")), api.OK)
	wantFile(t, "P2.3: Append", d, "abc", 0)
	for i, want := range []int{3, 0, 0} {
		if n := d.Sync(); n != want {
			t.Errorf("P2.4: Sync %d = %d, want %d", i, n, want)
		}
		wantFile(t, "P2.4: Sync", d, "abc", 3)
	}
	wantErr(t, "P2.3: Append", d.Append([]byte("defg")), api.OK)
	wantFile(t, "P2.3: Append behind synced bytes", d, "abcdefg", 3)
	wantErr(t, "P2.3: Append", d.Append([]byte("h")), api.OK)
	wantFile(t, "P2.3: Append behind a tail", d, "abcdefgh", 3)
	if n := d.Sync(); n != 5 {
		t.Errorf("P2.4: Sync of two appends = %d, want 5", n)
	}
	wantFile(t, "P2.4: Sync", d, "abcdefgh", 8)
}

func TestAppendNothing(t *testing.T) {
	d := laid(t)
	wantErr(t, "P2.3: Append(nil)", d.Append(nil), api.OK)
	wantErr(t, "P2.3: Append of no byte", d.Append([]byte{}), api.OK)
	wantFile(t, "P2.3: nothing appended", d, "abcdefg", 3)
}

func TestAppendAtTheLimit(t *testing.T) {
	r := dice(2)
	b := some(r, api.MaxDisk)
	d, _ := disk.From(b)
	wantErr(t, "P2.3: Append to a full file", d.Append([]byte{1}), api.ErrDiskFull)
	wantErr(t, "P2.3: Append(nil) to a full file", d.Append(nil), api.OK)
	wantErr(t, "P2.3: Append of no byte to a full file", d.Append([]byte{}), api.OK)
	wantFile(t, "P2.3: a full file", d, string(b), api.MaxDisk)
	most := api.MaxDisk - 1
	d, _ = disk.From(b[:most])
	wantErr(t, "P2.3: Append of two bytes where one has room", d.Append(b[most-1:]), api.ErrDiskFull)
	wantErr(t, "P2.3: Append of more than a file holds", d.Append(make([]byte, api.MaxDisk+1)), api.ErrDiskFull)
	wantFile(t, "P2.3: none of them appended", d, string(b[:most]), most)
	wantErr(t, "P2.3: Append of the last byte", d.Append(b[most:]), api.OK)
	wantFile(t, "P2.3: the last byte", d, string(b), most)
	d = disk.New()
	wantErr(t, "P2.3: Append of too many to an empty file", d.Append(make([]byte, api.MaxDisk+1)), api.ErrDiskFull)
	wantErr(t, "P2.3: Append of a whole file", d.Append(b), api.OK)
	wantFile(t, "P2.3: a whole file", d, string(b), 0)
	wantErr(t, "P2.6: Cut of a full file", d.Cut(most), api.OK)
	wantErr(t, "P2.3: Append behind the cut", d.Append([]byte{9}), api.OK)
	wantErr(t, "P2.3: Append to a file that is full again", d.Append([]byte{9}), api.ErrDiskFull)
}

func TestManySmallAppendsFillTheFile(t *testing.T) {
	d := disk.New()
	var want []byte
	r := dice(3)
	for {
		b := some(r, 1+r.IntN(99))
		if len(want)+len(b) > api.MaxDisk {
			wantErr(t, "P2.3: Append past the limit", d.Append(b), api.ErrDiskFull)
			break
		}
		wantErr(t, "P2.3: Append", d.Append(b), api.OK)
		want = append(want, b...)
	}
	wantFile(t, "P2.3: many appends", d, string(want), 0)
}

func TestCut(t *testing.T) {
	d := laid(t)
	for _, c := range []struct {
		n      int
		b      string
		synced int
	}{{7, "abcdefg", 3}, {5, "abcde", 3}, {3, "abc", 3}, {2, "ab", 2}, {2, "ab", 2}} {
		wantErr(t, "P2.6: Cut", d.Cut(c.n), api.OK)
		wantFile(t, "P2.6: Cut", d, c.b, c.synced)
	}
	d.Append([]byte("x"))
	wantFile(t, "P2.6: Append behind a cut", d, "abx", 2)
	wantErr(t, "P2.7: Crash", d.Crash(0, 0, 0), api.OK)
	wantFile(t, "P2.6: a crash behind a cut", d, "ab", 2)
	for _, n := range []int{3, -1, 1 << 40, math.MaxInt, math.MinInt} {
		wantErr(t, "P2.6: Cut at no place", d.Cut(n), api.ErrCut)
		wantFile(t, "P2.6: Cut at no place", d, "ab", 2)
	}
	wantErr(t, "P2.6: Cut(0)", d.Cut(0), api.OK)
	wantFile(t, "P2.6: Cut(0)", d, "", 0)
}

func TestCutBytesNeverComeBack(t *testing.T) {
	d := laid(t)
	d.Cut(1)
	if n := d.Sync(); n != 0 {
		t.Errorf("P2.6: Sync behind a cut of synced bytes = %d", n)
	}
	wantErr(t, "P2.7: Crash that keeps cut bytes", d.Crash(1, 0, 0), api.ErrKeep)
	wantErr(t, "P2.6: Cut at cut bytes", d.Cut(2), api.ErrCut)
	d.Append([]byte("XY"))
	wantErr(t, "P2.7: Crash that keeps cut bytes", d.Crash(3, 0, 0), api.ErrKeep)
	wantErr(t, "P2.7: Crash", d.Crash(2, 0, 0), api.OK)
	wantFile(t, "P2.6: behind cut, append and crash", d, "aXY", 3)
}

func TestCrash(t *testing.T) {
	for _, c := range []struct {
		keep, at, mask int
		b              string
	}{
		{2, 0, 0, "abcde"}, {2, 1, 1, "abcdd"}, {0, -7, 0, "abc"}, {4, 3, 255, "abcdef\x98"},
		{4, 0, 0, "abcdefg"}, {4, 0, 32, "abcDefg"}, {1, 0, 255, "abc\x9b"}, {3, 2, 128, "abcde\xe6"},
		{2, 99, 0, "abcde"}, {1, math.MinInt, 0, "abcd"}, {1, math.MaxInt, 0, "abcd"},
	} {
		d := laid(t)
		wantErr(t, "P2.7: Crash", d.Crash(c.keep, c.at, c.mask), api.OK)
		wantFile(t, "P2.7: Crash", d, c.b, len(c.b))
		wantErr(t, "P2.7: Crash without a tail", d.Crash(0, c.at, 0), api.OK)
		wantFile(t, "P2.7: Crash without a tail", d, c.b, len(c.b))
		d.Append([]byte("!"))
		wantFile(t, "P2.7: Append behind a crash", d, c.b+"!", len(c.b))
	}
}

func TestCrashThatCannotBe(t *testing.T) {
	for _, c := range []struct {
		keep, at, mask int
		want           api.Errno
	}{
		{5, 0, 0, api.ErrKeep}, {-1, 0, 0, api.ErrKeep}, {5, 9, 300, api.ErrKeep}, {-1, -1, -1, api.ErrKeep},
		{7, 0, 0, api.ErrKeep}, {math.MaxInt, 0, 1, api.ErrKeep}, {math.MinInt, 0, 1, api.ErrKeep},
		{2, 2, 1, api.ErrGarble}, {2, -1, 1, api.ErrGarble}, {2, 0, 256, api.ErrGarble}, {2, 0, -1, api.ErrGarble},
		{0, 0, 1, api.ErrGarble}, {0, -1, 1, api.ErrGarble}, {4, 4, 255, api.ErrGarble}, {2, 0, 512, api.ErrGarble},
		{2, 3, 1, api.ErrGarble}, {2, 0, -256, api.ErrGarble}, {2, math.MaxInt, 1, api.ErrGarble},
		{2, math.MinInt, 1, api.ErrGarble}, {2, 0, math.MaxInt, api.ErrGarble}, {2, 0, math.MinInt, api.ErrGarble},
	} {
		d := laid(t)
		wantErr(t, "P2.7: Crash that cannot be", d.Crash(c.keep, c.at, c.mask), c.want)
		wantFile(t, "P2.7: a refused crash", d, "abcdefg", 3)
	}
}

func TestArgumentsAreNeitherKeptNorChanged(t *testing.T) {
	b := []byte("abc-room behind")
	d, _ := disk.From(b[:3])
	c := []byte("def-room behind")
	d.Append(c[:3])
	if string(b) != "abc-room behind" || string(c) != "def-room behind" {
		t.Errorf("P2.2, P2.3: arguments changed: %q, %q", b, c)
	}
	clear(b)
	clear(c)
	wantFile(t, "P2.2, P2.3: what the caller writes later", d, "abcdef", 3)
	d.Crash(3, 0, 1)
	d.Append([]byte("more"))
	if !bytes.Equal(b, make([]byte, 15)) || !bytes.Equal(c, make([]byte, 15)) {
		t.Errorf("P2.2, P2.3: arguments changed later: %q, %q", b, c)
	}
}

func TestTheFirstBytesAreCopied(t *testing.T) {
	b, c := []byte("abc"), []byte("abc")
	from, _ := disk.From(b)
	appended := disk.New()
	appended.Append(c)
	clear(b)
	clear(c)
	wantFile(t, "P2.2: what the caller writes later", from, "abc", 3)
	wantFile(t, "P2.3: what the caller writes later", appended, "abc", 0)
	appended.Crash(3, 0, 255)
	if !bytes.Equal(c, make([]byte, 3)) {
		t.Errorf("P2.3: a crash changed what was appended: %q", c)
	}
}

func TestBytesAreNewMemory(t *testing.T) {
	d := laid(t)
	one, two := d.Bytes(), d.Bytes()
	clear(one)
	_ = append(one[:0], bytes.Repeat([]byte{'Z'}, cap(one))...)
	_ = append(d.Bytes(), "ZZZZ"...)
	if string(two) != "abcdefg" {
		t.Errorf("P2.5: two answers share memory: %q", two)
	}
	wantFile(t, "P2.5: an answer that was written into", d, "abcdefg", 3)
	d.Append([]byte("h"))
	d.Crash(1, 0, 9)
	if string(two) != "abcdefg" {
		t.Errorf("P2.5: an answer changes later: %q", two)
	}
}

func TestAskingChangesNothing(t *testing.T) {
	d := laid(t)
	for range 4 {
		wantFile(t, "P2.5: asked again", d, "abcdefg", 3)
	}
	if n := d.Sync(); n != 4 {
		t.Errorf("P2.5: Sync behind asking = %d, want 4", n)
	}
}
