package room_test

import (
	"fmt"
	"math/rand/v2"
	"strings"
	"testing"

	"jotter/api"
	"jotter/room"
	"jotter/wire"
)

// dice gives numbers that look mixed, the same at every run.
func dice(seed int) *rand.Rand { return rand.New(rand.NewPCG(uint64(seed), 20)) }

func pick[T any](r *rand.Rand, list ...T) T { return list[r.IntN(len(list))] }

func open(t *testing.T, clients int) *room.Room {
	t.Helper()
	r, answer := room.Open(fmt.Sprint("clients ", clients))
	if r == nil || answer != "ok" {
		t.Fatalf("P20.1: Open of %d clients: a room: %v, %q", clients, r != nil, answer)
	}
	return r
}

// talk says lines, each followed by the answer that it must have.
func talk(t *testing.T, promise string, r *room.Room, pairs ...string) {
	t.Helper()
	for i := 0; i < len(pairs); i += 2 {
		if got := r.Say(pairs[i]); got != pairs[i+1] {
			t.Fatalf("%s: %.80q is answered by %.300q, want %.300q", promise, pairs[i], got, pairs[i+1])
		}
	}
}

// calm lets so many rounds pass, in which nothing is lost.
func calm(t *testing.T, r *room.Room, rounds int) {
	t.Helper()
	for range rounds {
		for _, line := range []string{"round", "all"} {
			if got := r.Say(line); !strings.HasPrefix(got, "ok ") {
				t.Fatalf("P20.3: %q is answered by %q", line, got)
			}
		}
	}
}

// forge gives the line that hands a message to a site.
func forge(t *testing.T, site int, m api.Msg) string {
	t.Helper()
	b, err := wire.Encode(m)
	if err != nil {
		t.Fatalf("%+v is no message: %v", m, err)
	}
	return fmt.Sprintf("forge %d %x", site, b)
}

// joined gives a room whose clients' sessions are open.
func joined(t *testing.T, clients int) *room.Room {
	t.Helper()
	r := open(t, clients)
	calm(t, r, 3)
	return r
}
