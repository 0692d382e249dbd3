package script_test

import (
	"bytes"
	"math/rand/v2"
	"reflect"
	"slices"
	"strconv"
	"strings"
	"testing"

	"jotter/api"
	"jotter/script"
)

// dice gives numbers that look mixed, the same at every run.
func dice(seed int) *rand.Rand { return rand.New(rand.NewPCG(uint64(seed), 15)) }

func pick[T any](r *rand.Rand, list []T) T { return list[r.IntN(len(list))] }

func same(a, b api.Entry) bool {
	return a.Kind == b.Kind && a.Site == b.Site && a.A == b.A && a.B == b.B && a.C == b.C && a.Ch == b.Ch && bytes.Equal(a.Bytes, b.Bytes) && a.Err == b.Err
}

func samePlan(a, b api.Plan) bool {
	return a.Clients == b.Clients && slices.EqualFunc(a.Entries, b.Entries, same)
}

func bad(kind int, e api.Errno) api.Entry { return api.Entry{Kind: kind, Err: e} }

func plan(clients int, entries ...api.Entry) api.Plan {
	return api.Plan{Clients: clients, Entries: entries}
}

// times gives a list of the same entry.
func times(n int, e api.Entry) []api.Entry { return slices.Repeat([]api.Entry{e}, n) }

// quote tells a text, and keeps what a failed test tells readable.
func quote(s string) string {
	if len(s) > 300 {
		return strconv.Quote(s[:300]) + ".. (" + strconv.Itoa(len(s)) + ")"
	}
	return strconv.Quote(s)
}

func wantLine(t *testing.T, text string, want api.Entry) {
	t.Helper()
	if got := script.Line(text); !same(got, want) {
		t.Fatalf("P15.1: Line(%s) = %+v, want %+v", quote(text), got, want)
	}
}

// isFault tells whether an error is just that one, of its very type.
func isFault(err error, at int, e api.Errno) bool {
	return reflect.DeepEqual(err, api.Wrap(at, e)) && api.Code(err) == e && api.Place(err) == at
}

func wantParse(t *testing.T, text string, want api.Plan) {
	t.Helper()
	got, err := script.Parse(text)
	if err != nil || !samePlan(got, want) {
		t.Fatalf("P15.2: Parse(%s) = %s, %v, want %s", quote(text), planWord(got), err, planWord(want))
	}
}

// wantUnread ends the test unless a text is refused as a whole, with that error there.
func wantUnread(t *testing.T, text string, at int, e api.Errno) {
	t.Helper()
	got, err := script.Parse(text)
	if got.Clients != 0 || len(got.Entries) != 0 || !isFault(err, at, e) {
		t.Fatalf("P15.2: Parse(%s) = %s, %v, want nothing, %v", quote(text), planWord(got), err, api.Wrap(at, e))
	}
}

func wantPrint(t *testing.T, p api.Plan, want string) {
	t.Helper()
	got, err := script.Print(p)
	if err != nil || got != want {
		t.Fatalf("P15.3: Print of %s = %s, %v, want %s", planWord(p), quote(got), err, quote(want))
	}
}

// wantUnprinted ends the test unless a plan is refused, with that error there.
func wantUnprinted(t *testing.T, p api.Plan, at int, e api.Errno) {
	t.Helper()
	got, err := script.Print(p)
	if got != "" || !isFault(err, at, e) {
		t.Fatalf("P15.3: Print of %s = %s, %v, want nothing, %v", planWord(p), quote(got), err, api.Wrap(at, e))
	}
}

func planWord(p api.Plan) string {
	var b strings.Builder
	b.WriteString("Clients " + strconv.Itoa(p.Clients) + ", " + strconv.Itoa(len(p.Entries)) + " entries:")
	for _, e := range p.Entries[:min(len(p.Entries), 20)] {
		b.WriteString(" {" + strconv.Itoa(e.Kind) + ": " + strconv.Itoa(e.Site) + " " + strconv.Itoa(e.A) + " " + strconv.Itoa(e.B) + " " + strconv.Itoa(e.C) +
			" " + strconv.Quote(string(e.Ch)) + " " + quote(string(e.Bytes[:min(len(e.Bytes), 70)])) + " " + strconv.Itoa(int(e.Err)) + "}")
	}
	return b.String()
}
