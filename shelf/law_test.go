package shelf_test

import (
	"fmt"
	"math/rand/v2"
	"slices"
	"strings"
	"sync"
	"testing"

	"jotter/shelf"
)

// nameOf gives the second word of a line: the text that it speaks of.
func nameOf(line string) string {
	words := strings.SplitN(line, " ", 3)
	if len(words) < 2 {
		return ""
	}
	return words[1]
}

// TestTextsNeverMeet: what is answered about a text is what a shelf that holds it alone answers.
func TestTextsNeverMeet(t *testing.T) {
	names := []string{"a", "b", "cc", "abcdefghijkl"}
	for seed := range 60 {
		d := dice(20000 + seed)
		all := shelf.New()
		alone := map[string]*shelf.Shelf{}
		for _, name := range names {
			alone[name] = shelf.New()
			talk(t, "P25.3", all, "open "+name+" 3", "ok")
			talk(t, "P25.3", alone[name], "open "+name+" 3", "ok")
		}
		for step := range 300 {
			line := mixedLine(d)
			got := all.Say(line)
			if s := alone[nameOf(line)]; s != nil {
				if want := s.Say(line); got != want {
					t.Fatalf("P25.3: seed %d, step %d: %.80q is answered by %.200q, and by %.200q where the text stands alone", seed, step, line, got, want)
				}
			}
		}
	}
}

// isQuestion tells whether a line only asks.
func isQuestion(line string) bool {
	verb, _, _ := strings.Cut(line, " ")
	return slices.Contains([]string{"look", "notes", "at", "find", "words", "merge", "lost", "resume", "list"}, verb)
}

// TestQuestionsChangeNothing: nor do lines that are refused by the shelf.
func TestQuestionsChangeNothing(t *testing.T) {
	for seed := range 80 {
		d := dice(30000 + seed)
		asked, quiet := shelf.New(), shelf.New()
		for step := range 300 {
			line := mixedLine(d)
			got := asked.Say(line)
			if isQuestion(line) || strings.HasPrefix(got, "error 2") && !strings.HasPrefix(line, "in ") && !strings.HasPrefix(line, "swap ") {
				if again := asked.Say(line); got != again {
					t.Fatalf("P25.3: seed %d, step %d: %.80q is answered by %.200q, asked again by %.200q", seed, step, line, got, again)
				}
				continue
			}
			if want := quiet.Say(line); got != want {
				t.Fatalf("P25.3: seed %d, step %d: %.80q is answered by %.200q, where nobody asked by %.200q", seed, step, line, got, want)
			}
		}
	}
}

// TestSideBySide: shelves that are used at the same time answer as one does that is used alone.
func TestSideBySide(t *testing.T) {
	talkOf := func(seed int) string {
		d, s := dice(40000+seed), shelf.New()
		var answers strings.Builder
		for range 200 {
			answers.WriteString(s.Say(mixedLine(d)) + "\n")
		}
		return answers.String()
	}
	var want, got [8]string
	for i := range want {
		want[i] = talkOf(i)
	}
	var all sync.WaitGroup
	for i := range got {
		all.Go(func() { got[i] = talkOf(i) })
	}
	all.Wait()
	if got != want {
		t.Errorf("P25.3: shelves that are used side by side answer otherwise than one alone")
	}
}

// TestInTurns: two shelves that are told the same lines in turns know nothing of each other.
func TestInTurns(t *testing.T) {
	one, other := shelf.New(), shelf.New()
	talk(t, "P25.3", one, "open a 1", "ok", "in a type 1 x", "ok 1", "note a 1 0 1 n", "note 1", "save a", "saved 0")
	talk(t, "P25.3", other, "list", "list", "open a 2", "ok", "find a 1 x", "places", "resume a", "error 253", "look a 1 1", "error 232", "in a type 1 yy", "ok 2", "note a 1 0 2 m", "note 1")
	talk(t, "P25.3", one, "find a 1 y", "places", "look a 1 1", "note 1 by 1 0-1 open 0 n", "close a", "ok", "list", "list")
	talk(t, "P25.3", other, "list", "list a:2", "look a 1 1", "note 1 by 1 0-2 open 0 m")
}

// TestRunSays: Run answers what Say does, line by line.
func TestRunSays(t *testing.T) {
	for seed := range 30 {
		d, s := dice(50000+seed), shelf.New()
		var text, want strings.Builder
		for range 200 {
			for _, line := range strings.Split(mixedLine(d), "\n") {
				text.WriteString(line + "\n")
				want.WriteString(s.Say(line) + "\n")
			}
		}
		if got := shelf.Run(text.String()); got != want.String() {
			t.Errorf("P25.2: seed %d: Run answers otherwise than Say", seed)
		}
		last := strings.TrimSuffix(text.String(), "\n")
		if !strings.HasSuffix(last, "\n") && shelf.Run(last) != want.String() {
			t.Errorf("P25.2: seed %d: without an end behind its last line Run answers otherwise", seed)
		}
	}
}

// lastPast gives what the room's past tells of its last record, as resume would.
func lastPast(t *testing.T, s *shelf.Shelf) string {
	t.Helper()
	var told [2]string
	least, most := 0, 192 // three clients can make no more
	for least < most {
		middle := (least + most + 1) / 2
		if strings.HasPrefix(s.Say(fmt.Sprint("in a past ", middle)), "past ") {
			least = middle
		} else {
			most = middle - 1
		}
	}
	for i := range told {
		told[i] = s.Say(fmt.Sprint("in a past ", least+i))
	}
	last, ok := strings.CutPrefix(told[0], "past ")
	if !ok || told[1] != "error 180" {
		t.Fatalf("P25.1: the past of record %d is %q, of the next one %q", least, told[0], told[1])
	}
	return "resumed " + last
}

// edited says one line of clients that write, in a room in which nothing is lost.
func edited(d *rand.Rand) string {
	site := pick(d, " 1", " 2", " 3")
	return "in a " + pick(d, "type"+site+" ab", "type"+site+" c", "erase"+site+" 1", "erase"+site+" -1", "move"+site+" 1", "replace"+site+" ba", "tick"+site, "tick"+site, "tick 0", "all", "all", "drop 0", "double 0", "deliver 1")
}

// TestResumedIsReplayed: as long as crashes take nothing of what was saved, resume tells the last record's text.
func TestResumedIsReplayed(t *testing.T) {
	crashes := 0
	for seed := range 25 {
		d := dice(60000 + seed)
		s := joined(t, 3)
		synced := true // what was saved
		talk(t, "P25.4", s, "save a", "saved 0")
		for step := range 120 {
			switch line := edited(d); {
			case d.IntN(20) == 0:
				revs := strings.SplitN(lastPast(t, s), " ", 3)[1]
				talk(t, "P25.1", s, "save a", "saved "+revs)
				synced = false
			case d.IntN(20) == 0 && synced:
				if strings.HasPrefix(s.Say(pick(d, "in a crash 0 0 0", "in a crash 17 0 0", "in a crash 20 19 4")), "ok ") {
					crashes++
					if got, want := s.Say("resume a"), lastPast(t, s); got != want {
						t.Fatalf("P25.4: seed %d, step %d: behind a crash: %q, the past: %q", seed, step, got, want)
					}
					s.Say("in a boot")
				}
			default:
				s.Say(line)
				synced = synced || line == "in a tick 0"
			}
			if got, want := s.Say("resume a"), lastPast(t, s); got != want {
				t.Fatalf("P25.4: seed %d, step %d: %q, the past: %q", seed, step, got, want)
			}
		}
	}
	if crashes < 15 {
		t.Errorf("only %d crashes", crashes)
	}
}

// TestResumedBehindCalm: what all have heard is synced, and never cut again.
func TestResumedBehindCalm(t *testing.T) {
	s := joined(t, 3)
	talk(t, "P25.4", s, "in a type 1 abc", "ok 3", "in a type 2 de", "ok 2")
	calm(t, s, "a", 6)
	talk(t, "P25.4", s, "in a erase 1 2", "ok 2")
	calm(t, s, "a", 6)
	talk(t, "P25.4", s, "save a", "saved 7", "resume a", "resumed 7 ade")
	for _, line := range []string{"type 3 fgh", "replace 2 xay", "type 1 z", "undo 2", "undo 1"} {
		if got := s.Say("in a " + line); !strings.HasPrefix(got, "ok ") {
			t.Fatalf("P25.1: %q is answered by %q", line, got)
		}
		calm(t, s, "a", 8)
		past := lastPast(t, s)
		talk(t, "P25.4", s, "resume a", past, "in a crash 0 0 0", "ok 0", "resume a", past, "in a boot", "ok 0", "resume a", past)
		calm(t, s, "a", 6)
	}
}
