package history_test

import (
	"math/rand/v2"
	"reflect"
	"slices"
	"strconv"
	"strings"
	"testing"

	"jotter/api"
	"jotter/history"
)

// ins and del make operations of an edit: ins(0, 'x', 2, 1) is the edit 1 of client 2, an Insert at 0.
func ins(pos int, ch byte, who, seq int) api.Op {
	return api.Op{Kind: api.Insert, Pos: pos, Ch: ch, Client: who, Seq: seq}
}

func del(pos, who, seq int) api.Op {
	return api.Op{Kind: api.Delete, Pos: pos, Client: who, Seq: seq}
}

func nop(who, seq int) api.Op { return api.Op{Kind: api.Nop, Client: who, Seq: seq} }

func edit(tag int, op api.Op) api.Edit { return api.Edit{Tag: tag, Op: op} }

func el(ch byte, who, seq int) api.Elem { return api.Elem{Ch: ch, Client: who, Seq: seq} }

// reads is an event without an edit, makes one with: its Made is the edit's Seq, its Site the edit's client.
func reads(site, have, made int, text ...api.Elem) api.Event {
	return api.Event{Site: site, Have: have, Made: made, Doc: text}
}

func makes(have int, op api.Op, text ...api.Elem) api.Event {
	return api.Event{Site: op.Client, Have: have, Made: op.Seq, Op: op, Doc: text}
}

// The elements of the chapter's examples.
var (
	a = el('a', 1, 1)
	b = el('b', 1, 2)
	x = el('x', 1, 1)
	y = el('y', 2, 1)
	w = el('w', 3, 1)
)

// alone, together, erased and unmet are the histories of the chapter's examples 1, 2, 4 and 5.
func alone() api.History {
	return api.History{Clients: 1, Events: []api.Event{makes(0, ins(0, 'a', 1, 1), a), makes(0, ins(1, 'b', 1, 2), a, b)}}
}

func together() api.History {
	return api.History{
		Clients: 2,
		Log:     []api.Edit{edit(0, ins(0, 'x', 1, 1)), edit(0, ins(0, 'y', 2, 1))},
		Events: []api.Event{
			makes(0, ins(0, 'x', 1, 1), x), makes(0, ins(0, 'y', 2, 1), y),
			reads(2, 1, 1, x, y), reads(1, 1, 1, x), reads(1, 2, 1, x, y), reads(0, 2, 0, x, y),
		},
	}
}

func erased() api.History {
	return api.History{
		Clients: 1,
		Log:     []api.Edit{edit(0, ins(0, 'x', 1, 1)), edit(1, del(0, 1, 2))},
		Events:  []api.Event{makes(0, ins(0, 'x', 1, 1), x), reads(1, 1, 1, x), makes(1, del(0, 1, 2)), reads(1, 2, 2)},
	}
}

func unmet() api.History {
	return api.History{
		Clients: 2,
		Log:     []api.Edit{edit(0, ins(0, 'x', 1, 1)), edit(0, ins(0, 'y', 2, 1)), edit(0, del(0, 1, 2)), edit(0, del(0, 2, 2))},
		Events: []api.Event{
			makes(0, ins(0, 'x', 1, 1), x), makes(0, del(0, 1, 2)), makes(0, ins(0, 'y', 2, 1), y), makes(0, del(0, 2, 2)),
			reads(0, 2, 0, x, y),
		},
	}
}

// with gives a history with one event's text changed.
func with(h api.History, i int, text ...api.Elem) api.History {
	h.Events[i].Doc = text
	return h
}

// bent gives a history that something was done to.
func bent(h api.History, bend func(h *api.History)) api.History {
	bend(&h)
	return h
}

// copied gives a history in memory of its own, its lists with spare room that is not zero.
func copied(h api.History) api.History {
	own := api.History{Clients: h.Clients, Log: roomy(h.Log, edit(77, ins(7, '7', 7, 7)))}
	own.Events = roomy(h.Events, api.Event{Step: 77})
	for i, e := range own.Events {
		own.Events[i].Doc = roomy(e.Doc, el('7', 7, 7))
	}
	return own
}

// roomy gives a copy of a list with a filled place behind its end.
func roomy[T any](list []T, filled T) []T {
	own := append(make([]T, 0, len(list)+1), list...)
	return append(own, filled)[:len(list)]
}

// same tells whether two histories are the same, nil lists and empty ones being alike, their spare room too.
func same(a, b api.History) bool {
	sameText := func(a, b []api.Elem) bool { return slices.Equal(a[:cap(a)], b[:cap(b)]) }
	sameEvent := func(a, b api.Event) bool {
		texts := sameText(a.Doc, b.Doc)
		a.Doc, b.Doc = nil, nil
		return texts && reflect.DeepEqual(a, b)
	}
	return a.Clients == b.Clients && slices.Equal(a.Log[:cap(a.Log)], b.Log[:cap(b.Log)]) &&
		slices.EqualFunc(a.Events[:cap(a.Events)], b.Events[:cap(b.Events)], sameEvent)
}

// wantError ends the test unless an error is just that one, of its very type.
func wantError(t *testing.T, what string, got, want error) {
	t.Helper()
	if !reflect.DeepEqual(got, want) {
		t.Fatalf("%s: the error %v, want %v", what, got, want)
	}
}

// wantRefused ends the test unless every call answers this error of a history, and nothing else.
func wantRefused(t *testing.T, what string, h api.History, at int, e api.Errno) {
	t.Helper()
	want := api.Wrap(at, e)
	wantError(t, "P14.1: "+what+": Check", history.Check(h), want)
	seen, err := history.Seen(h, 0)
	wantError(t, "P14.2: "+what+": Seen", err, want)
	path, err := history.Path(h, 1)
	wantError(t, "P14.3: "+what+": Path", err, want)
	side, err := history.Ahead(h, a, b)
	wantError(t, "P14.4: "+what+": Ahead", err, want)
	verdict, err := history.Judge(h)
	wantError(t, "P14.5: "+what+": Judge", err, want)
	if len(seen) > 0 || len(path) > 0 || side != 0 || verdict != (api.Verdict{}) {
		t.Fatalf("P0.3: %s: beside the error %v, %v, %v, %v", what, seen, path, side, verdict)
	}
}

// wantTaken ends the test unless Check lets a history through.
func wantTaken(t *testing.T, what string, h api.History) {
	t.Helper()
	if err := history.Check(h); err != nil {
		t.Fatalf("P14.1: %s: the error %v, want none", what, err)
	}
}

func wantVerdict(t *testing.T, what string, h api.History, rule, event, other int) {
	t.Helper()
	want := api.Verdict{Rule: rule, Event: event, Other: other}
	if got, err := history.Judge(h); got != want || err != nil {
		t.Fatalf("P14.5: %s: %v, %v, want %v; %s", what, got, err, want, word(h))
	}
}

func wantSeen(t *testing.T, what string, h api.History, i int, want ...api.Elem) {
	t.Helper()
	if got, err := history.Seen(h, i); !slices.Equal(got, want) || err != nil {
		t.Fatalf("P14.2: %s: Seen(%d) is %s, %v, want %s; %s", what, i, textWord(got), err, textWord(want), word(h))
	}
}

// wantPath ends the test unless a client's path is as these words tell it: "1.2 ab" has one record, two edits, and that text.
func wantPath(t *testing.T, what string, h api.History, client int, want ...string) {
	t.Helper()
	path, err := history.Path(h, client)
	var got []string
	for _, v := range path {
		got = append(got, strings.TrimSpace(strconv.Itoa(v.Have)+"."+strconv.Itoa(v.Made)+" "+plain(v.Doc)))
	}
	if !slices.Equal(got, want) || err != nil {
		t.Fatalf("P14.3: %s: the path of %d is %q, %v, want %q; %s", what, client, got, err, want, word(h))
	}
}

// wantSide ends the test unless a stands there to b, and b the other way round to a.
func wantSide(t *testing.T, what string, h api.History, a, b api.Elem, want int) {
	t.Helper()
	one, err := history.Ahead(h, a, b)
	two, bad := history.Ahead(h, b, a)
	if one != want || two != -want || err != nil || bad != nil {
		t.Fatalf("P14.4: %s: Ahead is %d, %v, and turned round %d, %v, want %d; %s", what, one, err, two, bad, want, word(h))
	}
}

// plain gives a text's characters alone.
func plain(text []api.Elem) string {
	b := make([]byte, len(text))
	for i, x := range text {
		b[i] = x.Ch
	}
	return string(b)
}

// textWord gives a text with the makers of its characters.
func textWord(text []api.Elem) string {
	var b strings.Builder
	for _, x := range text {
		b.WriteString(string(rune(x.Ch)) + strconv.Itoa(x.Client) + "." + strconv.Itoa(x.Seq) + " ")
	}
	return "[" + b.String() + "]"
}

func opWord(op api.Op) string {
	who := "(" + strconv.Itoa(op.Client) + "," + strconv.Itoa(op.Seq) + ")"
	switch op.Kind {
	case api.Insert:
		return "i" + strconv.Itoa(op.Pos) + strconv.Quote(string(rune(op.Ch))) + who
	case api.Delete:
		return "d" + strconv.Itoa(op.Pos) + who
	}
	return "n" + who
}

// word gives a history, or its beginning if it is long.
func word(h api.History) string {
	var b strings.Builder
	b.WriteString(strconv.Itoa(h.Clients) + " clients; the log")
	for _, e := range h.Log {
		b.WriteString(" " + strconv.Itoa(e.Tag) + ":" + opWord(e.Op))
	}
	for i, e := range h.Events {
		b.WriteString("\n" + strconv.Itoa(i) + ": site " + strconv.Itoa(e.Site) + ", have " + strconv.Itoa(e.Have) +
			", made " + strconv.Itoa(e.Made) + ", " + opWord(e.Op) + ", " + textWord(e.Doc))
		if b.Len() > 4000 {
			return b.String()[:4000] + " .."
		}
	}
	return b.String()
}

// dice gives numbers that look mixed, the same at every run.
func dice(seed int) *rand.Rand { return rand.New(rand.NewPCG(uint64(seed), 14)) }
