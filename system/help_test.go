package system_test

import (
	"bytes"
	"fmt"
	"math/rand/v2"
	"slices"
	"strings"
	"testing"

	"jotter/api"
	"jotter/book"
	"jotter/script"
	"jotter/system"
	"jotter/wal"
	"jotter/wire"
)

// join opens the sessions of all clients: Invites, Hellos, Beats.
const join = "round\nall\nround\nall\nround\nall\n"

// dice gives numbers that look mixed, the same at every run.
func dice(seed int) *rand.Rand { return rand.New(rand.NewPCG(uint64(seed), 16)) }

func pick[T any](r *rand.Rand, list ...T) T { return list[r.IntN(len(list))] }

func newSystem(t *testing.T, clients int) *system.System {
	t.Helper()
	x, e := system.New(clients)
	if x == nil || e != api.OK {
		t.Fatalf("P16.1: New(%d) = %v, %d", clients, x != nil, e)
	}
	return x
}

// after gives a system behind these lines, each of which must be played.
func after(t *testing.T, clients int, lines string) *system.System {
	t.Helper()
	x := newSystem(t, clients)
	playAll(t, x, lines)
	return x
}

func playAll(t *testing.T, x *system.System, lines string) {
	t.Helper()
	for line := range strings.Lines(lines) {
		if s := x.Do(entry(line)); s.Err != api.OK {
			t.Fatalf("%q is refused: %v", line, s)
		}
	}
}

// entry gives the entry of a line, with its end or without.
func entry(line string) api.Entry { return script.Line(strings.TrimSuffix(line, "\n")) }

// forge gives an entry that hands a message to a site.
func forge(t *testing.T, site int, m api.Msg) api.Entry {
	t.Helper()
	return api.Entry{Kind: api.EForge, Site: site, Bytes: bytesOf(t, m)}
}

func bytesOf(t *testing.T, m api.Msg) []byte {
	t.Helper()
	b, err := wire.Encode(m)
	if err != nil {
		t.Fatalf("%+v is no message: %v", m, err)
	}
	return b
}

// play plays an entry that must be taken, and come to that count.
func play(t *testing.T, x *system.System, e api.Entry, count int) {
	t.Helper()
	if s, want := x.Do(e), (api.Step{Kind: e.Kind, Count: count}); s != want {
		t.Fatalf("P16.2: %s: %+v, want %+v", entryWord(e), s, want)
	}
}

func playLine(t *testing.T, x *system.System, line string, count int) {
	t.Helper()
	play(t, x, entry(line), count)
}

// refuse plays an entry that must be refused, and change nothing but the list of steps.
func refuse(t *testing.T, x *system.System, e api.Entry, want api.Errno) {
	t.Helper()
	before := x.Report()
	step := api.Step{Kind: e.Kind, Err: want}
	if s := x.Do(e); s != step {
		t.Fatalf("P16.2: %s: %+v, want %+v", entryWord(e), s, step)
	}
	before.Steps = append(before.Steps, step)
	wantReport(t, "P16.2: refused: "+entryWord(e), x.Report(), before)
}

func refuseLine(t *testing.T, x *system.System, line string, want api.Errno) {
	t.Helper()
	refuse(t, x, entry(line), want)
}

// refuseGone plays a delivery whose datagram is refused: it is out of flight, and nothing else has changed.
func refuseGone(t *testing.T, x *system.System, i int, want api.Errno) {
	t.Helper()
	before := x.Report()
	e := api.Entry{Kind: api.EDeliver, A: i}
	step := api.Step{Kind: api.EDeliver, Err: want, Count: 1}
	if s := x.Do(e); s != step {
		t.Fatalf("P16.2, P16.12: %s: %+v, want %+v", entryWord(e), s, step)
	}
	before.Steps = append(before.Steps, step)
	before.Flight = slices.Delete(before.Flight, i, i+1)
	wantReport(t, "P16.12: refused: "+entryWord(e), x.Report(), before)
}

// word tells a thing whole. An absent list and an empty one are told alike: they are one thing.
func word(x any) string { return fmt.Sprintf("%+v", x) }

func entryWord(e api.Entry) string {
	return fmt.Sprintf("entry {Kind %d Site %d A %d B %d C %d Ch %d Bytes %x Err %d}", e.Kind, e.Site, e.A, e.B, e.C, e.Ch, e.Bytes[:min(len(e.Bytes), 70)], int(e.Err))
}

// brief gives the beginning of a text, because some are long.
func brief(s string) string { return s[:min(len(s), 2500)] }

// same tells whether two reports are the same in every field.
func same(a, b api.Report) bool {
	return a.Err == b.Err && a.At == b.At && a.Clients == b.Clients && a.Synced == b.Synced && slices.Equal(a.Steps, b.Steps) && slices.EqualFunc(a.Sites, b.Sites, sameSite) &&
		sameServer(a.Server, b.Server) && slices.Equal(a.Log, b.Log) && bytes.Equal(a.Disk, b.Disk) && slices.EqualFunc(a.Flight, b.Flight, sameDatagram) && sameEvents(a.Events, b.Events)
}

func sameSite(a, b api.ClientView) bool {
	return a.ID == b.ID && a.Epoch == b.Epoch && a.Open == b.Open && a.Made == b.Made && a.Have == b.Have && slices.Equal(a.Doc, b.Doc) && slices.Equal(a.Pending, b.Pending)
}

func sameServer(a, b api.ServerView) bool {
	return a.Up == b.Up && a.Epoch == b.Epoch && a.Revs == b.Revs && a.Synced == b.Synced && slices.Equal(a.Doc, b.Doc) && slices.Equal(a.Told, b.Told) && slices.Equal(a.Links, b.Links)
}

func sameDatagram(a, b api.Datagram) bool {
	return a.From == b.From && a.To == b.To && a.Spoilt == b.Spoilt && bytes.Equal(a.Bytes, b.Bytes)
}

func sameEvents(a, b []api.Event) bool {
	return slices.EqualFunc(a, b, func(x, y api.Event) bool {
		return x.Step == y.Step && x.Site == y.Site && x.Have == y.Have && x.Made == y.Made && x.Op == y.Op && slices.Equal(x.Doc, y.Doc)
	})
}

// wantReport ends the test unless a report is just that one, and names the first field that is not.
func wantReport(t *testing.T, what string, got, want api.Report) {
	t.Helper()
	if same(got, want) {
		return
	}
	for _, f := range []struct {
		name      string
		got, want any
	}{{"Err, At, Clients, Synced", []int{int(got.Err), got.At, got.Clients, got.Synced}, []int{int(want.Err), want.At, want.Clients, want.Synced}},
		{"Steps", got.Steps, want.Steps}, {"Sites", got.Sites, want.Sites}, {"Server", got.Server, want.Server}, {"Log", got.Log, want.Log},
		{"Disk", got.Disk, want.Disk}, {"Flight", got.Flight, want.Flight}, {"Events", got.Events, want.Events}} {
		if word(f.got) != word(f.want) {
			t.Fatalf("%s: the report's %s: %s\nwant %s", what, f.name, brief(word(f.got)), brief(word(f.want)))
		}
	}
	t.Fatalf("%s: the reports are not the same", what)
}

// wantEvents ends the test unless the events from that number on are these; Doc's characters are given as one text each.
func wantEvents(t *testing.T, what string, x *system.System, from int, want ...string) {
	t.Helper()
	events := x.Report().Events
	if len(events) != from+len(want) {
		t.Fatalf("%s: P16.3: %d events, want %d: %s", what, len(events), from+len(want), brief(word(events)))
	}
	for i, w := range want {
		if got := eventWord(events[from+i]); got != w {
			t.Fatalf("%s: P16.3: event %d is %s, want %s", what, from+i, got, w)
		}
	}
}

// eventWord tells an event as "step 0: site 1 have 0 made 1 i0a(1,1) [a1.1]".
func eventWord(e api.Event) string {
	return fmt.Sprintf("step %d: site %d have %d made %d %s [%s]", e.Step, e.Site, e.Have, e.Made, opWord(e.Op), textWord(e.Doc))
}

// opWord gives an operation as the chapters write it; the zero one as a dash.
func opWord(op api.Op) string {
	who := fmt.Sprintf("(%d,%d)", op.Client, op.Seq)
	switch {
	case op == (api.Op{}):
		return "-"
	case op.Kind == api.Insert:
		return fmt.Sprintf("i%d%c%s", op.Pos, op.Ch, who)
	case op.Kind == api.Delete:
		return fmt.Sprintf("d%d%s", op.Pos, who)
	}
	return "n" + who
}

// textWord gives a text with the makers of its characters: "a1.1 b2.1".
func textWord(text []api.Elem) string {
	all := make([]string, len(text))
	for i, x := range text {
		all[i] = fmt.Sprintf("%c%d.%d", x.Ch, x.Client, x.Seq)
	}
	return strings.Join(all, " ")
}

// plain gives a text's characters alone.
func plain(text []api.Elem) string {
	b := make([]byte, len(text))
	for i, x := range text {
		b[i] = x.Ch
	}
	return string(b)
}

// logWord gives a log as "0:i0a(1,1) 0:d0(2,1)": tags and originals.
func logWord(log []api.Edit) string {
	all := make([]string, len(log))
	for i, e := range log {
		all[i] = fmt.Sprintf("%d:%s", e.Tag, opWord(e.Op))
	}
	return strings.Join(all, " ")
}

// items gives what lies on a disk's bytes, up to what cannot stand, and whether that is all of them.
func items(disk []byte) ([]api.Item, bool) {
	payloads, good, err := wal.Scan(disk)
	var list []api.Item
	for _, p := range payloads {
		item, bad := wire.DecodeItem(p)
		if bad != nil {
			return list, false
		}
		list = append(list, item)
	}
	return list, err == nil && good == len(disk)
}

// boots and edits sort out what lies on a disk.
func boots(list []api.Item) []int {
	var epochs []int
	for _, item := range list {
		if item.Kind == api.LBoot {
			epochs = append(epochs, item.Epoch)
		}
	}
	return epochs
}

func edits(list []api.Item) []api.Edit {
	var all []api.Edit
	for _, item := range list {
		if item.Kind == api.LEdit {
			all = append(all, api.Edit{Tag: item.Tag, Op: item.Op})
		}
	}
	return all
}

// textOf gives the text that a log comes to.
func textOf(t *testing.T, log []api.Edit) []api.Elem {
	t.Helper()
	_, text, err := book.Replay(log)
	if err != nil {
		t.Fatalf("the log is none: %v: %s", err, logWord(log))
	}
	return text
}

// isBeginning tells whether a log is a beginning of another.
func isBeginning(short, long []api.Edit) bool {
	return len(short) <= len(long) && slices.Equal(short, long[:len(short)])
}
