package wal_test

import (
	"bytes"
	"strings"
	"testing"

	"jotter/api"
	"jotter/octet"
	"jotter/wal"
)

func TestFrame(t *testing.T) {
	b, err := wal.Frame([]byte{0x41})
	if want := octet.Seal([]byte{0, 1, 0xFF, 0xFE, 0x41}); !bytes.Equal(b, want) || err != nil {
		t.Errorf("P3.1: Frame(41) = % X, %v, want % X", b, err, want)
	}
	for n := 1; n <= api.MaxPayload; n++ {
		p := strings.Repeat("x", n-1) + "\x00"
		b, err := wal.Frame([]byte(p))
		if string(b) != recordOf(p) || err != nil || len(b) != n+8 {
			t.Errorf("P3.1: Frame of %d bytes = % X, %v, want % X", n, b, err, recordOf(p))
		}
	}
}

func TestFrameOfLongest(t *testing.T) {
	b, err := wal.Frame(make([]byte, 64))
	if len(b) != 72 || !bytes.HasPrefix(b, []byte{0, 0x40, 0xFF, 0xBF}) || err != nil {
		t.Errorf("P3.1: Frame of 64 bytes = % X, %v", b, err)
	}
}

func TestFrameRefuses(t *testing.T) {
	for _, n := range []int{0, 65, 66, 256, 257, 65535, 65536, 65537, 65536 + 64} {
		b, err := wal.Frame(make([]byte, n))
		if b != nil {
			t.Errorf("P3.1: Frame of %d bytes = % X", n, b)
		}
		wantSelf(t, "P3.1: Frame", err, api.ErrPayload)
	}
	if b, err := wal.Frame(nil); b != nil || err != api.ErrPayload {
		t.Errorf("P3.1: Frame(nil) = % X, %v", b, err)
	}
}

func TestFrameMemory(t *testing.T) {
	room := []byte("abcdefgh-----------------")
	p := room[:8]
	b, _ := wal.Frame(p)
	if string(room) != "abcdefgh-----------------" {
		t.Errorf("P0.2: Frame changed its argument or the room behind it: %q", room)
	}
	clear(p)
	if string(b) != recordOf("abcdefgh") {
		t.Errorf("P0.2: Frame's answer changed with its argument: % X", b)
	}
	clear(b[:cap(b)])
	if c, _ := wal.Frame([]byte("abcdefgh")); string(c) != recordOf("abcdefgh") {
		t.Errorf("P0.2: Frame's answer changed with an earlier one: % X", c)
	}
}

func TestScanExamples(t *testing.T) {
	a := recordOf("A")
	wantScan(t, "P3.2: no bytes", "", api.OK)
	wantScan(t, "P3.2: one record", a, api.OK, "A")
	wantScan(t, "P3.2: its first 8 bytes", a[:8], api.ErrTorn)
	wantScan(t, "P3.2: its first 3 bytes", a[:3], api.ErrTorn)
	wantScan(t, "P3.2: its head alone", a[:4], api.ErrTorn)
	wantScan(t, "P3.2: nine bytes 00", strings.Repeat("\x00", 9), api.ErrHead)
	both := []byte(imageOf("A", "longer"))
	both[len(both)-1] ^= 1
	wantScan(t, "P3.2: the last byte changed", string(both), api.ErrRecord, "A")
	if p, n, err := wal.Scan(nil); len(p) != 0 || n != 0 || err != nil {
		t.Errorf("P3.2: Scan(nil) = %q, %d, %v", p, n, err)
	}
}

func TestScanReasonsInTheirOrder(t *testing.T) {
	long := strings.Repeat("y", 64)
	for _, c := range []struct {
		what, image string
		reason      api.Errno
	}{
		{"nonsense of one byte", "\xFF", api.ErrTorn},
		{"nonsense of three bytes", "\xFF\xFF\xFF", api.ErrTorn},
		{"nonsense of four bytes", "\xFF\xFF\xFF\xFF", api.ErrHead},
		{"a length of 0", recordOf(""), api.ErrHead},
		{"a length of 0, nothing behind the head", "\x00\x00\xFF\xFF", api.ErrHead},
		{"a length of 65", recordOf(long + "z"), api.ErrHead},
		{"a length of 65, nothing behind the head", "\x00\x41\xFF\xBE", api.ErrHead},
		{"a length of 256", recordOf(strings.Repeat(long, 4)), api.ErrHead},
		{"a length of 65535", recordOf(strings.Repeat(long, 1024)[1:]), api.ErrHead},
		{"the complement one too great", "\x00\x01\xFF\xFF" + recordOf("A")[4:], api.ErrHead},
		{"the complement one too small", "\x00\x01\xFF\xFD", api.ErrHead},
		{"the numbers lowest byte first", "\x01\x00\xFE\xFF" + recordOf("A")[4:], api.ErrHead},
		{"the numbers in turned order", "\xFF\xFE\x00\x01" + recordOf("A")[4:], api.ErrHead},
		{"a wrong sum, one byte too few", "\x00\x02\xFF\xFDab\x00\x00\x00", api.ErrTorn},
		{"a wrong sum", "\x00\x02\xFF\xFDab\x00\x00\x00\x00", api.ErrRecord},
		{"the sum highest byte first", "\x00\x01\xFF\xFEA" + turned(recordOf("A")[5:]), api.ErrRecord},
		{"the sum of the payload alone", "\x00\x01\xFF\xFEa\x43\xBE\xB7\xE8", api.ErrRecord},
		{"the longest, torn", recordOf(long)[:71], api.ErrTorn},
	} {
		wantScan(t, "P3.2: "+c.what, c.image, c.reason)
		wantScan(t, "P3.2: behind two records: "+c.what, imageOf("one", long)+c.image, c.reason, "one", long)
		wantScan(t, "P3.2: "+c.what+", and a good record behind", c.image+recordOf("good"), reasonWithMore(c.image, c.reason))
	}
}

// reasonWithMore: bytes that came to an early end are no longer torn with a record laid behind them: they are read on into it.
func reasonWithMore(image string, reason api.Errno) api.Errno {
	switch {
	case reason != api.ErrTorn:
		return reason
	case len(image) < 4:
		return api.ErrHead
	default:
		return api.ErrRecord
	}
}

func turned(s string) string {
	b := []byte(s)
	for i := range b {
		b[i] = s[len(s)-1-i]
	}
	return string(b)
}

func TestScanOfEveryFront(t *testing.T) {
	payloads := []string{"A", strings.Repeat("b", 64), "\x00\x01\xFF\xFE", "d"}
	image := imageOf(payloads...)
	for k := range len(image) + 1 {
		whole := 0
		for whole < len(payloads) && len(imageOf(payloads[:whole+1]...)) <= k {
			whole++
		}
		reason := api.ErrTorn
		if k == len(imageOf(payloads[:whole]...)) {
			reason = api.OK
		}
		wantScan(t, "P3.2: a front", image[:k], reason, payloads[:whole]...)
	}
}

func TestScanTellsEveryChangedByte(t *testing.T) {
	payloads := []string{"one", "2", "three bytes or more"}
	image := imageOf(payloads...)
	ahead := 0
	for at := range len(image) {
		if at >= len(imageOf(payloads[:ahead+1]...)) {
			ahead++
		}
		start := len(imageOf(payloads[:ahead]...))
		reason := api.ErrRecord
		if at < start+4 {
			reason = api.ErrHead
		}
		for mask := 1; mask < 256; mask++ {
			b := []byte(image)
			b[at] ^= byte(mask)
			wantScan(t, "P3.2: one byte changed", string(b), reason, payloads[:ahead]...)
		}
	}
}

func TestScanOfLongImages(t *testing.T) {
	r := dice(1)
	var payloads []string
	for range 20000 {
		payloads = append(payloads, payload(r))
	}
	image := imageOf(payloads...)
	if len(image) <= api.MaxDisk {
		t.Fatalf("the image has %d bytes: it is to be longer than any disk", len(image))
	}
	wantScan(t, "P3.2: a long image", image, api.OK, payloads...)
	wantScan(t, "P3.2: a long image, torn", image+"\x00\x01", api.ErrTorn, payloads...)
}

func TestScanMemory(t *testing.T) {
	image := []byte(imageOf("first", "second", "third"))
	kept := string(image)
	got, _, err := wal.Scan(image)
	if string(image) != kept || err != nil {
		t.Fatalf("P0.2: Scan changed its argument, or answered %v", err)
	}
	clear(image)
	if string(got[0]) != "first" || string(got[1]) != "second" || string(got[2]) != "third" {
		t.Errorf("P0.2: Scan's payloads changed with its argument: %q", got)
	}
	_ = append(got[0], "writing behind it"...)
	clear(got[1][:cap(got[1])])
	if string(got[0]) != "first" || string(got[2]) != "third" {
		t.Errorf("P0.2: Scan's payloads changed with one another: %q", got)
	}
}

func TestScanErrorsAreNotShared(t *testing.T) {
	_, _, one := wal.Scan([]byte("\xFF"))
	one.(*api.Fault).At = 99
	_, _, two := wal.Scan([]byte("\xFF"))
	wantWhy(t, "P0.2: a second Scan", two, api.ErrTorn, 0)
}
