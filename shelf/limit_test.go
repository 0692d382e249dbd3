package shelf_test

import (
	"fmt"
	"runtime"
	"strings"
	"testing"
	"time"

	"jotter/api"
	"jotter/shelf"
)

func TestRun(t *testing.T) {
	many := strings.Repeat("list\n", 1024)
	for _, c := range []struct{ text, want string }{
		{"", ""}, {"\n", "error 250\n"}, {"\n\n", "error 250\nerror 250\n"}, {"list", "list\n"}, {"list\n", "list\n"}, {"list\n\n", "list\nerror 250\n"}, {"\nlist", "error 250\nlist\n"}, {"list\r\n", "error 250\n"}, {" ", "error 250\n"}, {"list\n ", "list\nerror 250\n"}, {"list\u2028list", "error 250\n"}, {"list\x85\x00", "error 250\n"},
		{"clients 1\nlist", "error 250\nlist\n"}, {"open a 1\nopen a 1\nclose a\nlist\n", "ok\nerror 252\nok\nlist\n"}, {"open a 1\nin a type 1  x \nfind a 1  x", "ok\nok 3\nplaces 0\n"}, {"open a 1\nmerge a 0 \nmerge a 0", "ok\nmerged \nerror 250\n"},
		{many, many}, {strings.TrimSuffix(many, "\n"), many}, {many + "\n", "error 152\n"}, {many + "x", "error 152\n"}, {many + "list\n", "error 152\n"}, {strings.Repeat("\n", 1024), strings.Repeat("error 250\n", 1024)}, {strings.Repeat("\n", 1025), "error 152\n"}, {strings.Repeat("\n", 1023) + "list", strings.Repeat("error 250\n", 1023) + "list\n"},
		{strings.Repeat("x", api.MaxScript), "error 250\n"}, {strings.Repeat("x", api.MaxScript+1), "error 150\n"}, {strings.Repeat("\n", api.MaxScript), "error 152\n"}, {strings.Repeat("\n", api.MaxScript+1), "error 150\n"}, {strings.Repeat("é", api.MaxScript/2), "error 250\n"}, {strings.Repeat("é", api.MaxScript/2) + "x", "error 150\n"},
	} {
		if got := shelf.Run(c.text); got != c.want {
			t.Errorf("P25.2: Run(%.30q) of %d bytes = %.60q, want %.60q", c.text, len(c.text), got, c.want)
		}
	}
}

// TestRunsNeverMeet: each Run has a shelf of its own.
func TestRunsNeverMeet(t *testing.T) {
	for range 3 {
		if got := shelf.Run("list\nopen a 1\nin a type 1 x\nnote a 1 0 1 n\n"); got != "list\nok\nok 1\nnote 1\n" {
			t.Errorf("P25.2: %q", got)
		}
	}
}

// TestLongLines: lines of any length and of any bytes are answered.
func TestLongLines(t *testing.T) {
	s := written(t)
	const n = 1 << 20
	long, wide := strings.Repeat("a", n), strings.Repeat(" ", n)
	talk(t, "P25.1", s, long, "error 250", wide, "error 250", "list"+wide, "error 250", "close "+long, "error 251", "close "+wide, "error 250", "open "+long+" 1", "error 251", "open b "+strings.Repeat("1", n), "error 250", "in "+long+" x", "error 251", "in a "+long, "error 200", "in a "+wide, "error 200", "in a type 1 "+long, "error 192", "note a 1 0 1 "+long, "error 231", "note a 1 0 1"+wide, "error 231", "find a 1 "+long, "error 240", "find a 1"+wide, "error 240", "swap a 1 1 "+long, "error 240", "swap a 1 999999 "+long, "error 240", "swap a 1 999999 "+long[:999999], "error 240", "swap a 1 999999 "+long[:999998], "error 250", "merge a 0 "+long, "error 221", "lost a 0"+wide, "error 221", strings.Repeat("\n", n), "error 250", "in a show 1", "text 7 one two")
	for b := range 256 {
		c := string([]byte{byte(b)})
		want(t, "P25.1", s, "error 250", c, c+"list", "list"+c, "li"+c+"st", "close"+c+"a"+c+"b")
	}
}

// TestWildBytes: any bytes as a name, as a rest.
func TestWildBytes(t *testing.T) {
	for b := range 256 {
		c := string([]byte{byte(b)})
		s := joined(t, 1)
		typed, rest, words, name := "error 191", "error 240", "error 231", "error 251"
		switch {
		case b == '\n':
			typed, rest, words, name = "error 250", "error 250", "error 250", "error 250"
		case b == ' ':
			name = "error 250"
		case b == 'a':
			name = "ok"
		case b >= 'b' && b <= 'z':
			name = "error 253"
		}
		if b >= 32 && b <= 126 {
			typed, rest, words = "ok 1", "places 0", "note 1"
		}
		if b == 'x' {
			rest = "places 0 1 2"
		}
		talk(t, "P25.1", s, "in a type 1 "+c, typed, "in a type 1 xx", "ok 2", "find a 1 "+c, rest, "note a 1 0 1 "+c, words, "close "+c, name)
	}
}

// TestBusyShelf: eight texts of many clients, all of whose edits come to the log, are answered in short time.
func TestBusyShelf(t *testing.T) {
	s := shelf.New()
	began := time.Now()
	for i := range 8 {
		name := string(rune('a' + i))
		talk(t, "P25.1", s, "open "+name+" 8", "ok")
		for site := 1; site <= 8; site++ {
			talk(t, "P25.1", s, fmt.Sprintf("in %s type %d %s", name, site, strings.Repeat(name, 32)), "ok 32")
		}
		calm(t, s, name, 80)
		whole := strings.Repeat(name, 256)
		talk(t, "P25.4", s, "in "+name+" told", "told 256 "+whole, "save "+name, "saved 256", "resume "+name, "resumed 256 "+whole, "words "+name+" 0", "words "+whole+":1", "merge "+name+" 256 "+whole, "merged "+whole, "note "+name+" 1 0 256 n", "note 1", "look "+name+" 8 1", "note 1 by 1 0-256 open 0 n")
	}
	if took := time.Since(began); took > time.Minute {
		t.Errorf("P0.1: eight texts took %v", took)
	}
}

// TestNothingStays: no goroutine of a call is left when it has answered.
func TestNothingStays(t *testing.T) {
	before := runtime.NumGoroutine()
	for range 50 {
		shelf.Run("open a 3\nin a type 1 x\nin a round\nin a all\nsave a\nresume a\nfind a 1 x\nclose a\n")
	}
	for range 100 {
		if runtime.NumGoroutine() <= before {
			return
		}
		time.Sleep(10 * time.Millisecond)
	}
	t.Errorf("P0.1: %d goroutines, %d before", runtime.NumGoroutine(), before)
}
