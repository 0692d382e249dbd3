package room_test

import (
	"bytes"
	"fmt"
	"math"
	"slices"
	"strings"
	"testing"

	"jotter/api"
	"jotter/room"
)

func TestRunsWithoutARoom(t *testing.T) {
	long := strings.Repeat("told\n", 1025)
	for _, c := range []struct{ text, want string }{
		{"", "error 151\n"}, {"\n", "error 151\n"}, {"\n\n", "error 151\n"}, {"\nclients 1\n", "error 151\n"}, {"clients 1\r\n", "error 151\n"}, {"clients 1 \n", "error 151\n"}, {" clients 1", "error 151\n"}, {"clients 0", "error 151\n"}, {"clients 65\n", "error 151\n"},
		{"told\n" + long, "error 151\n"}, {"clients 1\n" + long, "error 152\n"}, {"clients 1\n" + strings.TrimSuffix(long, "\n"), "error 152\n"}, {"clients 65\n" + long, "error 151\n"}, {"clients 1\n" + strings.Repeat("\n", 1025), "error 152\n"},
		{strings.Repeat("x", api.MaxScript), "error 151\n"}, {strings.Repeat("x", api.MaxScript+1), "error 150\n"}, {strings.Repeat("\n", api.MaxScript+1), "error 150\n"}, {"clients 1\n" + strings.Repeat("\n", api.MaxScript), "error 150\n"}, {"clients 1\n" + strings.Repeat("\n", api.MaxScript-10), "error 152\n"},
		{"clients 1", "ok\n"}, {"clients 1\n", "ok\n"}, {"clients 64\n", "ok\n"}, {"clients 1\n\n", "ok\nerror 200\n"}, {"clients 1\n\n\n", "ok\nerror 200\nerror 200\n"}, {"clients 1\n ", "ok\nerror 200\n"}, {"clients 1\ntold", "ok\ntold 0 \n"}, {"clients 1\ntold\n\ntold", "ok\ntold 0 \nerror 200\ntold 0 \n"},
		{"clients 1\nclients 1\n", "ok\nerror 200\n"}, {"clients 1\ntold\r\n", "ok\nerror 200\n"}, {"clients 1\n\xff\n\x85\n\u2028\n", "ok\nerror 200\nerror 200\nerror 200\n"}, {"clients 1\ntype 1 \u2028\n", "ok\nerror 191\n"}, {"clients 1\ntype 1  \nshow 1\n", "ok\nok 1\ntext 1  \n"},
	} {
		if got := room.Run(c.text); got != c.want {
			t.Errorf("P20.4: Run(%.30q) of %d bytes = %.60q, want %.60q", c.text, len(c.text), got, c.want)
		}
	}
}

// TestLongestRuns: just as many lines and bytes as may be.
func TestLongestRuns(t *testing.T) {
	for _, text := range []string{"clients 1\n" + strings.Repeat("told\n", 1024), "clients 1\n" + strings.Repeat("told\n", 1023) + "told"} {
		if got, want := room.Run(text), "ok\n"+strings.Repeat("told 0 \n", 1024); got != want {
			t.Errorf("P20.4: 1024 lines: %.40q, %d bytes", got, len(got))
		}
	}
	head := "clients 1\ntype 1 ab\nreplace 1 "
	if got, want := room.Run(head+strings.Repeat("z", api.MaxScript-len(head))), "ok\nok 2\nerror 196\n"; got != want {
		t.Errorf("P20.4: 65536 bytes: %.80q, want %q", got, want)
	}
}

// TestMemory: what is answered is new memory, its spare room too.
func TestMemory(t *testing.T) {
	r := joined(t, 2)
	talk(t, "P20.7", r, "type 1 abc", "ok 3", "type 2 xy", "ok 2")
	calm(t, r, 2)
	for site := range 3 {
		first, _ := r.Doc(site)
		want := slices.Clone(first)
		if len(want) != 5 {
			t.Fatalf("P20.7: Doc(%d) = %v", site, want)
		}
		clear(first[:cap(first)])
		_ = append(first, api.Elem{Ch: 'q'})
		if again, e := r.Doc(site); e != api.OK || !slices.Equal(again, want) {
			t.Errorf("P20.7: Doc(%d) = %v, %v, want %v", site, again, e, want)
		}
	}
	disk := r.Disk()
	want := bytes.Clone(disk)
	clear(disk[:cap(disk)])
	_ = append(disk, 1, 2, 3)
	if again := r.Disk(); !bytes.Equal(again, want) {
		t.Errorf("P20.7: Disk = %x, want %x", again, want)
	}
	talk(t, "P20.7", r, "show 1", "text 3 abcxy", "show 2", "text 5 abcxy", "told", "told 5 abcxy", "past 5", "past 5 abcxy", "judge", "holds")
}

func TestDoc(t *testing.T) {
	r := joined(t, 2)
	for _, site := range []int{math.MinInt, -1 << 32, -1, 3, 64, 65, 1 << 32, 1<<32 + 1, math.MaxInt} {
		if text, e := r.Doc(site); text != nil || e != api.ErrSite {
			t.Errorf("P20.7: Doc(%d) = %v, %v", site, text, e)
		}
	}
	talk(t, "P20.7", r, "type 2 b", "ok 1")
	wantDoc := func(site int, e api.Errno, want ...api.Elem) {
		t.Helper()
		if text, got := r.Doc(site); got != e || !slices.Equal(text, want) {
			t.Errorf("P20.7: Doc(%d) = %v, %v, want %v, %v", site, text, got, want, e)
		}
	}
	b := api.Elem{Ch: 'b', Client: 2, Seq: 1}
	wantDoc(0, api.OK)
	wantDoc(1, api.OK)
	wantDoc(2, api.OK, b)
	talk(t, "P20.7", r, "tick 2", "ok 1", "deliver 0", "ok 1")
	wantDoc(0, api.OK) // not synced yet
	if n := len(r.Disk()); n != 27 {
		t.Errorf("P20.7: a disk of %d bytes, want a boot of 10 and an edit of 17", n)
	}
	talk(t, "P20.7", r, "tick 0", "ok 2")
	wantDoc(0, api.OK, b)
	wantDoc(1, api.OK)
	talk(t, "P20.7", r, "all", "ok 2", "crash 0 0 0", "ok 0")
	wantDoc(0, api.ErrDown)
	wantDoc(1, api.OK, b)
	wantDoc(2, api.OK, b)
	if n := len(r.Disk()); n != 27 {
		t.Errorf("P20.7: a disk of %d bytes behind a crash, want 27", n)
	}
}

// TestLastEpoch: a room's server can always be started.
func TestLastEpoch(t *testing.T) {
	r := open(t, 1)
	for range 254 {
		talk(t, "P20.3", r, "crash 0 0 0", "ok 0", "boot", "ok 0")
	}
	talk(t, "P20.3", r, "crash 0 0 0", "error 124", "told", "told 0 ", "type 1 a", "ok 1")
	settle(t, r, 1)
}

// TestFullFlight: a network that is full loses what is new, and a calm brings all round.
func TestFullFlight(t *testing.T) {
	r := joined(t, 2)
	talk(t, "P20.3", r, "type 1 abc", "ok 3", "type 2 xyz", "ok 3", "tick 1", "ok 3")
	for range 2045 {
		talk(t, "P20.3", r, "double 1", "ok 1")
	}
	talk(t, "P20.3", r, "double 1", "error 73", "round", "ok 0", "told", "told 0 ")
	settle(t, r, 2)
}

// TestLongLines: lines of any length and of any bytes are answered.
func TestLongLines(t *testing.T) {
	r := open(t, 1)
	const n = 1 << 20
	talk(t, "P20.3", r, strings.Repeat("x", n), "error 200", strings.Repeat(" ", n), "error 200", "show "+strings.Repeat("1", n), "error 200", "show"+strings.Repeat(" 1", n), "error 200", "type 1 "+strings.Repeat("x", n), "error 192", "type 1 "+strings.Repeat(" ", n), "error 192",
		"type 1 "+strings.Repeat("x", n)+"\t", "error 191", "replace 1 "+strings.Repeat("x", n), "error 196", "replace 1 "+strings.Repeat("\xff", n), "error 196", "type "+strings.Repeat("1", n)+" x", "error 200", "erase 1 -"+strings.Repeat("1", n), "error 200", "erase 1 "+strings.Repeat("-", n), "error 200",
		"forge 0 "+strings.Repeat("ff", n), "error 155", "tick"+strings.Repeat(" 1", n), "error 154", strings.Repeat("\n", n), "error 200", "show 1", "text 0 ")
	for b := range 256 {
		for _, line := range []string{"%c", "show%c1", "show %c", "%cshow 1", "show 1%c", "told%c"} {
			talk(t, "P20.3", r, strings.ReplaceAll(line, "%c", string([]byte{byte(b)})), shortAnswer(line, byte(b)))
		}
	}
}

// shortAnswer gives what TestLongLines' lines with one byte come to in an empty room.
func shortAnswer(line string, b byte) string {
	switch {
	case line == "show%c1" && b == ' ', line == "show %c" && b == '1':
		return "text 0 "
	case line == "show %c" && b >= '0' && b <= '9', line == "show 1%c" && b >= '0' && b <= '9':
		return "error 160"
	}
	return "error 200"
}

// TestWideTexts: a text that is too wide to be replaced can still be typed in.
func TestWideTexts(t *testing.T) {
	const clients = 9
	r := joined(t, clients)
	for site := 1; site < clients; site++ {
		talk(t, "P20.3", r, fmt.Sprintf("type %d %s", site, strings.Repeat(string(rune('a'+site)), 64)), "ok 64")
	}
	settle(t, r, clients)
	talk(t, "P20.3", r, "replace 9 ", "error 192", "type 9 x", "ok 1", "replace 9 ", "error 196", "undo 9", "ok 1", "replace 9 x", "error 192", "move 9 512", "ok 0", "erase 9 62", "ok 62", "left 9", "left 0 undo 1 redo 0", "undo 9", "error 192", "blame 20", "blame 1:0-8 2:8-16 3:16-20")
}
