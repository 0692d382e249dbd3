package history_test

import (
	"runtime"
	"slices"
	"testing"
	"time"

	"jotter/api"
	"jotter/book"
	"jotter/history"
)

// full gives a history of 64 clients, each of which has made 64 insertions at its beginning, all of them in the log, and the text of all.
func full(t *testing.T) (api.History, []api.Elem) {
	t.Helper()
	h := api.History{Clients: api.MaxClients}
	for who := 1; who <= api.MaxClients; who++ {
		var text []api.Elem
		for seq := 1; seq <= api.MaxEdits; seq++ {
			op := ins(seq/2, 'a'+byte(who%26), who, seq)
			text, _ = apply(text, op)
			h.Events = append(h.Events, makes(0, op, text...))
		}
	}
	for seq := 1; seq <= api.MaxEdits; seq++ {
		for who := 1; who <= api.MaxClients; who++ {
			h.Log = append(h.Log, edit(0, h.Events[(who-1)*api.MaxEdits+seq-1].Op))
		}
	}
	_, text, err := book.Replay(h.Log)
	if err != nil || len(text) != api.MaxDoc {
		t.Fatalf("book.Replay: %d characters, %v", len(text), err)
	}
	return h, text
}

// TestFullHistory: as many clients, edits and characters as can be.
func TestFullHistory(t *testing.T) {
	h, text := full(t)
	for who := 0; who <= api.MaxClients; who++ {
		h.Events = append(h.Events, reads(who, api.MaxLog, api.MaxEdits*min(who, 1), text...))
	}
	last := len(h.Events) - 1
	wantTaken(t, "full", h)
	wantVerdict(t, "full", h, 0, 0, 0)
	for _, i := range []int{last, last - api.MaxClients} {
		wantSeen(t, "full", h, i, sorted(text)...)
	}
	path, err := history.Path(h, api.MaxClients)
	if n := api.MaxLog + api.MaxEdits; err != nil || len(path) != n+1 || !slices.Equal(path[n].Doc, text) || !slices.Equal(path[api.MaxEdits].Doc, h.Events[api.MaxLog-1].Doc) {
		t.Fatalf("P14.3: %d states, %v, the last %d characters long", len(path), err, len(path[len(path)-1].Doc))
	}
	wantSide(t, "the first and the last", h, text[0], text[api.MaxDoc-1], 1)
	wantFullRefused(t, h)

	turned := slices.Clone(text)
	turned[0], turned[api.MaxDoc-1] = turned[api.MaxDoc-1], turned[0]
	h.Events[last].Doc = turned
	wantVerdict(t, "the last text, turned round", h, 3, last, last-api.MaxClients)
	first, end := text[0], text[api.MaxDoc-1]
	h.Events = append(h.Events[:api.MaxLog], h.Events[last])
	// Now an earlier text speaks against it only if it has one of the two beside another of its client.
	want := min(other(h, first, turned), other(h, end, turned))
	wantVerdict(t, "the only text of all, turned round", h, 4, api.MaxLog, want)
}

// other gives the first event, of those in which clients made their edits, that shows an element on the other side of a neighbour than a text does.
func other(h api.History, x api.Elem, text []api.Elem) int {
	places := map[api.Elem]int{}
	for i, y := range text {
		places[y] = i
	}
	for i, e := range h.Events {
		k := slices.Index(e.Doc, x)
		for j, y := range e.Doc {
			if k >= 0 && j != k && (j < k) != (places[y] < places[x]) {
				return i
			}
		}
	}
	return len(h.Events)
}

// wantFullRefused looks at what is one too many.
func wantFullRefused(t *testing.T, h api.History) {
	t.Helper()
	more := bent(h, func(h *api.History) { h.Log = append(slices.Clone(h.Log), h.Log[0]) })
	wantRefused(t, "4097 edits in the log", more, 0, api.ErrHistLong)
	more = bent(h, func(h *api.History) {
		h.Events = append(slices.Clone(h.Events), makes(api.MaxLog, del(0, 1, api.MaxEdits+1)))
	})
	wantRefused(t, "a client's 65th edit", more, len(h.Events), api.ErrHistEvent)
	more.Events[len(h.Events)] = reads(1, api.MaxLog+1, api.MaxEdits)
	wantRefused(t, "a record beyond", more, len(h.Events), api.ErrHistEvent)
}

// TestManyEvents: one text shown again and again, by all.
func TestManyEvents(t *testing.T) {
	h := together()
	for n := range 30000 {
		e := h.Events[4-n%2*2]
		e.Have = 2
		e.Step = n
		h.Events = append(h.Events, e)
	}
	wantVerdict(t, "many events", h, 0, 0, 0)
	h.Events[30005].Doc = []api.Elem{y, x}
	wantVerdict(t, "the last", h, 3, 30005, 2)
	h.Events[20005].Doc = []api.Elem{x, x}
	wantVerdict(t, "one of them", h, 2, 20005, -1)
}

// spoil writes over a list where it lies, and over its spare room: as far as an append could.
func spoil[T any](list []T, wrong T) {
	list = list[:cap(list)]
	for i := range list {
		list[i] = wrong
	}
}

// TestAnswersAreNewMemory: what is written into an answer, or put behind it, changes no later answer, not the history, and no other list of the same answer.
func TestAnswersAreNewMemory(t *testing.T) {
	for seed := range 40 {
		r := dice(seed + 400000)
		h := copied(made(r, 3, 40, false))
		kept := copied(h)
		for i := range h.Events {
			list, _ := history.Seen(h, i)
			spoil(list, el('!', 9, 9))
		}
		for client := 1; client <= 3; client++ {
			path, _ := history.Path(h, client)
			again, _ := history.Path(h, client)
			for i, v := range path {
				spoil(v.Doc, el('?', 8, 8))
				if k := slices.IndexFunc(path[i+1:], func(v api.View) bool { return slices.Contains(v.Doc, el('?', 8, 8)) }); k >= 0 {
					t.Fatalf("P14.6: the texts of the states %d and %d share memory", i, i+1+k)
				}
			}
			spoil(path, api.View{Have: 99})
			if later, _ := history.Path(h, client); !slices.EqualFunc(later, again, sameView) {
				t.Fatalf("P0.2: what was answered is kept")
			}
		}
		if !same(h, kept) {
			t.Fatalf("P14.6: an answer shares memory with the history")
		}
		if v, err := wantModel(t, h); v.Rule != 0 || err != nil {
			t.Fatalf("P14.6: %v, %v", v, err)
		}
	}
}

// TestNothingIsKept: a history that is changed behind a call is another.
func TestNothingIsKept(t *testing.T) {
	h := together()
	wantVerdict(t, "as it was", h, 0, 0, 0)
	h.Events[4].Doc[0], h.Events[4].Doc[1] = y, x
	wantVerdict(t, "turned round", h, 3, 4, 2)
	h.Events[4].Doc[0], h.Events[4].Doc[1] = x, y
	wantVerdict(t, "turned back", h, 0, 0, 0)
}

// TestEverySchedule: many sites speak against the history at many events, and the answer is always the same; no goroutine is left behind.
func TestEverySchedule(t *testing.T) {
	defer runtime.GOMAXPROCS(runtime.GOMAXPROCS(0))
	for _, procs := range []int{1, 2, 8} {
		runtime.GOMAXPROCS(procs)
		before := runtime.NumGoroutine()
		for range 200 {
			wantVerdict(t, "all hold", crowd([]api.Elem{x, y}, []api.Elem{x, y, w}), 0, 0, 0)
			wantVerdict(t, "all are wrong", crowd(nil, []api.Elem{w}), 2, 3, -1)
			wantVerdict(t, "all are off their paths", crowd([]api.Elem{y, x}, []api.Elem{w, x, y}), 5, 3, -1)
			wantVerdict(t, "all but one are against one", crowd([]api.Elem{x, y}, []api.Elem{y, x, w}), 4, 64, 3)
		}
		// One that has told its end may still be counted for a moment, a longer one if the machine is busy.
		for n := 0; runtime.NumGoroutine() > before && n < 5000; n++ {
			time.Sleep(time.Millisecond)
		}
		if n := runtime.NumGoroutine(); n > before {
			t.Fatalf("P14.5: %d goroutines behind the calls, %d before", n, before)
		}
	}
}

// crowd gives a history of three insertions; two of them are shown by all others, client 64 first, and all three by the server.
func crowd(two, three []api.Elem) api.History {
	h := api.History{Clients: api.MaxClients}
	for i, z := range []api.Elem{x, y, w} {
		op := ins(0, z.Ch, 1+i, 1)
		h.Log = append(h.Log, edit(0, op))
		h.Events = append(h.Events, makes(0, op, z))
	}
	for who := api.MaxClients; who > 3; who-- {
		h.Events = append(h.Events, reads(who, 2, 0, two...))
	}
	h.Events = append(h.Events, reads(0, 3, 0, three...))
	return h
}
