package shelf_test

import (
	"fmt"
	"math/rand/v2"
	"strings"
	"testing"

	"jotter/shelf"
)

// dice gives numbers that look mixed, the same at every run.
func dice(seed int) *rand.Rand { return rand.New(rand.NewPCG(uint64(seed), 25)) }

func pick[T any](r *rand.Rand, list ...T) T { return list[r.IntN(len(list))] }

// talk says lines, each followed by the answer that it must have.
func talk(t *testing.T, promise string, s *shelf.Shelf, pairs ...string) {
	t.Helper()
	for i := 0; i+1 < len(pairs); i += 2 {
		if got := s.Say(pairs[i]); got != pairs[i+1] {
			t.Fatalf("%s: %.80q is answered by %.300q, want %.300q", promise, pairs[i], got, pairs[i+1])
		}
	}
}

// want says lines that must all have one answer.
func want(t *testing.T, promise string, s *shelf.Shelf, answer string, lines ...string) {
	t.Helper()
	for _, line := range lines {
		if got := s.Say(line); got != answer {
			t.Errorf("%s: %.80q is answered by %.300q, want %.300q", promise, line, got, answer)
		}
	}
}

// calm lets so many rounds pass in a text's room, in which nothing is lost.
func calm(t *testing.T, s *shelf.Shelf, name string, rounds int) {
	t.Helper()
	for range rounds {
		for _, line := range []string{"in " + name + " round", "in " + name + " all"} {
			if got := s.Say(line); !strings.HasPrefix(got, "ok ") {
				t.Fatalf("P25.1: %q is answered by %q", line, got)
			}
		}
	}
}

// joined gives a shelf with the text a, whose clients' sessions are open.
func joined(t *testing.T, clients int) *shelf.Shelf {
	t.Helper()
	s := shelf.New()
	talk(t, "P25.1", s, fmt.Sprint("open a ", clients), "ok")
	calm(t, s, "a", 3)
	return s
}

// written gives a shelf with the text a of two clients, which reads "one two" everywhere, all of it by client 1.
func written(t *testing.T) *shelf.Shelf {
	t.Helper()
	s := joined(t, 2)
	talk(t, "P25.1", s, "in a type 1 one two", "ok 7")
	calm(t, s, "a", 3)
	talk(t, "P25.1", s, "in a told", "told 7 one two", "in a show 2", "text 0 one two")
	return s
}

// rightLines gives a line of each verb that names the text a, right in its form.
func rightLines() []string {
	return []string{"open a 1", "close a", "in a told", "note a 1 0 1 x", "reply a 1 1 x", "shut a 1", "look a 1 1", "notes a 1", "at a 1 0", "sweep a 1", "find a 1 x", "swap a 1 1 xy", "words a 1", "merge a 0 x", "lost a 0 x", "save a", "resume a"}
}

// restAt tells how many words of a line of that verb stand ahead of its rest; 0: it has none.
func restAt(verb string) int {
	switch verb {
	case "in":
		return 2
	case "find", "merge", "lost":
		return 3
	case "reply", "swap":
		return 4
	case "note":
		return 5
	}
	return 0
}
