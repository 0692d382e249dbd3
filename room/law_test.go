package room_test

import (
	"fmt"
	"runtime"
	"slices"
	"strings"
	"sync"
	"testing"
	"time"

	"jotter/api"
	"jotter/room"
)

// isQuestion tells whether a line only asks.
func isQuestion(line string) bool {
	verb, _, _ := strings.Cut(line, " ")
	return slices.Contains([]string{"show", "pending", "told", "past", "blame", "born", "died", "tally", "judge", "left"}, verb)
}

// made tells how many edits all clients have made.
func made(t *testing.T, r *room.Room, clients int) int {
	t.Helper()
	all := 0
	for site := 1; site <= clients; site++ {
		var pending, n, have int
		line := fmt.Sprint("pending ", site)
		if _, err := fmt.Sscanf(r.Say(line), "pending %d made %d have %d", &pending, &n, &have); err != nil {
			t.Fatalf("P20.3: %q is answered by %q", line, r.Say(line))
		}
		all += n
	}
	return all
}

// TestAllHearTheSame: whatever was said, calm rounds bring one text to all.
func TestAllHearTheSame(t *testing.T) {
	for seed := range 60 {
		d := dice(2000 + seed)
		clients := 1 + d.IntN(5)
		r := open(t, clients)
		for range d.IntN(300) {
			r.Say(mixed(d, clients, true))
		}
		settle(t, r, clients)
	}
}

// settle does what P20.5 says, and looks at what must hold then.
func settle(t *testing.T, r *room.Room, clients int) {
	t.Helper()
	const law = "P20.5"
	if r.Say("told") == "error 161" {
		if got := r.Say("boot"); !strings.HasPrefix(got, "ok ") {
			t.Fatalf("%s: boot is answered by %q", law, got)
		}
	}
	edits := made(t, r, clients)
	calm(t, r, 50+edits)
	elems, e := r.Doc(0)
	if e != api.OK {
		t.Fatalf("P20.7: Doc(0): %v", e)
	}
	text := plain(elems)
	talk(t, law, r, "told", fmt.Sprintf("told %d %s", edits, text), fmt.Sprint("past ", edits), fmt.Sprintf("past %d %s", edits, text), fmt.Sprint("past ", edits+1), "error 180", "judge", "holds")
	for site := 1; site <= clients; site++ {
		if got := r.Say(fmt.Sprint("show ", site)); strings.SplitN(got, " ", 3)[2] != text {
			t.Fatalf("%s: client %d shows %q, want %q", law, site, got, text)
		}
		if got := r.Say(fmt.Sprint("pending ", site)); !strings.HasPrefix(got, "pending 0 made ") || !strings.HasSuffix(got, fmt.Sprint(" have ", edits)) {
			t.Fatalf("%s: client %d: %q, want %d records", law, site, got, edits)
		}
		if own, e := r.Doc(site); e != api.OK || !slices.Equal(own, elems) {
			t.Fatalf("%s: client %d's elements %v, %v, want %v", law, site, own, e, elems)
		}
	}
}

// TestManyClients: 64 hands at one text.
func TestManyClients(t *testing.T) {
	r := open(t, 64)
	for site := 1; site <= 64; site++ {
		talk(t, "P20.3", r, fmt.Sprintf("type %d %c!", site, 'A'+site%26), "ok 2")
	}
	talk(t, "P20.3", r, "show 65", "error 160")
	settle(t, r, 64)
}

// TestQuestionsChangeNothing: the answers to all other lines are the same, whether somebody asks between them or not.
func TestQuestionsChangeNothing(t *testing.T) {
	for seed := range 25 {
		d := dice(3000 + seed)
		quiet, asked := open(t, 3), open(t, 3)
		for i := range 200 {
			line := mixed(d, 3, true)
			if isQuestion(line) {
				before := asked.Say(line)
				if again := asked.Say(line); again != before {
					t.Fatalf("P20.3: run %d, line %d: %q is answered by %q, then by %q", seed, i, line, before, again)
				}
				asked.Doc(i % 4)
				asked.Disk()
				continue
			}
			if a, b := quiet.Say(line), asked.Say(line); a != b {
				t.Fatalf("P20.3: run %d, line %d: %q is answered by %q; if questions were asked before, by %q", seed, i, line, a, b)
			}
		}
		for _, line := range []string{"show 1", "show 2", "show 3", "told", "judge", "past 3", "left 1", "left 2", "pending 3"} {
			talk(t, "P20.3", asked, line, quiet.Say(line))
		}
	}
}

// TestRefusedLinesChangeNothing: an error leaves the room as it was, but for a datagram that was delivered and is gone.
func TestRefusedLinesChangeNothing(t *testing.T) {
	for seed := range 25 {
		d := dice(4000 + seed)
		all, good := open(t, 2), open(t, 2)
		for i := range 250 {
			line := mixed(d, 2, true)
			answer := all.Say(line)
			if strings.HasPrefix(answer, "error ") && !strings.HasPrefix(line, "deliver ") {
				continue
			}
			if got := good.Say(line); got != answer {
				t.Fatalf("P0.3: run %d, line %d: %q is answered by %q; without the lines that were refused by %q", seed, i, line, answer, got)
			}
		}
	}
}

// TestRoomsNeverMeet: rooms that are talked to in turns answer as each does alone.
func TestRoomsNeverMeet(t *testing.T) {
	d := dice(5000)
	const rooms, length = 4, 150
	var lines, alone [rooms][]string
	for k := range rooms {
		r := open(t, 2)
		for range length {
			line := mixed(d, 2, true)
			lines[k], alone[k] = append(lines[k], line), append(alone[k], r.Say(line))
		}
	}
	var all [rooms]*room.Room
	for k := range rooms {
		all[k] = open(t, 2)
	}
	for i := range length {
		for k := range rooms {
			talk(t, "P20.6", all[k], lines[k][i], alone[k][i])
		}
	}
	var wait sync.WaitGroup
	for k := range rooms {
		r := open(t, 2)
		wait.Go(func() {
			for i, line := range lines[k] {
				if got := r.Say(line); got != alone[k][i] {
					t.Errorf("P20.6: at the same time: %q is answered by %q, want %q", line, got, alone[k][i])
				}
			}
		})
	}
	wait.Wait()
}

// TestRunIsSaying: Run gives what Open and Say answer, line by line.
func TestRunIsSaying(t *testing.T) {
	for seed := range 30 {
		d := dice(6000 + seed)
		clients := 1 + d.IntN(3)
		lines := []string{fmt.Sprint("clients ", clients)}
		want := "ok\n"
		r := open(t, clients)
		for range d.IntN(200) {
			line := strings.ReplaceAll(mixed(d, clients, true), "\n", "")
			lines = append(lines, line)
			want += r.Say(line) + "\n"
		}
		text := strings.Join(lines, "\n")
		if strings.HasSuffix(text, "\n") { // an empty line at the end has an end of its own
			text += "\n"
		}
		if got := room.Run(text); got != want {
			t.Fatalf("P20.4: run %d: %q, want %q", seed, got, want)
		}
		if got := room.Run(strings.TrimSuffix(text, "\n") + "\n"); got != want && !strings.HasSuffix(text, "\n\n") {
			t.Fatalf("P20.4: run %d, an end behind the last line: %q, want %q", seed, got, want)
		}
		for i, line := range strings.SplitAfter(want, "\n") {
			if i < len(lines) && strings.Count(line, "\n") != 1 {
				t.Fatalf("P20.3: %q is answered by %q", lines[i], line)
			}
		}
	}
}

// TestRunLeavesNothing: what gathers the answers has ended when Run answers.
func TestRunLeavesNothing(t *testing.T) {
	before := runtime.NumGoroutine()
	for _, text := range []string{"", "clients 1", "clients 2\nround\nall\ntype 1 abc\njudge\n", "clients 0\n", strings.Repeat("x", 70000), "clients 1\n" + strings.Repeat("told\n", 2000)} {
		for range 50 {
			room.Run(text)
		}
	}
	for range 100 {
		if runtime.NumGoroutine() <= before {
			return
		}
		time.Sleep(time.Millisecond)
	}
	t.Errorf("P20.4: %d goroutines, %d before", runtime.NumGoroutine(), before)
}
