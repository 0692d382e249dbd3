package system_test

import (
	"bytes"
	"math"
	"slices"
	"strings"
	"testing"

	"jotter/api"
	"jotter/book"
	"jotter/system"
)

func TestNewTakesOneTo64(t *testing.T) {
	for _, n := range []int{math.MinInt, -64, -1, 0, 65, 66, 128, 257, 1<<32 + 1, math.MaxInt} {
		if x, e := system.New(n); x != nil || e != api.ErrClients {
			t.Fatalf("P16.1: New(%d) = %v, %d, want nil, ErrClients", n, x != nil, e)
		}
	}
	for n := 1; n <= api.MaxClients; n++ {
		want := api.Report{Clients: n, Synced: 10}
		want.Disk = []byte{0, 2, 255, 253, 1, 1, 0, 0, 0, 0}
		want.Server = api.ServerView{Up: true, Epoch: 1, Links: make([]api.LinkView, n)}
		for id := 1; id <= n; id++ {
			want.Sites = append(want.Sites, api.ClientView{ID: id})
		}
		got := newSystem(t, n).Report()
		if len(got.Disk) == 10 {
			copy(want.Disk[6:], got.Disk[6:]) // the sum is layer 1's matter; that it is right:
		}
		if list, whole := items(got.Disk); !whole || !slices.Equal(boots(list), []int{1}) {
			t.Fatalf("P16.1: the disk of a new system: %v", got.Disk)
		}
		wantReport(t, "P16.1: a new system", got, want)
	}
}

// TestSystemsShareNothing: what one plays is never seen in another.
func TestSystemsShareNothing(t *testing.T) {
	x, y := newSystem(t, 2), newSystem(t, 2)
	fresh := y.Report()
	playAll(t, x, join+"insert 1 0 a\nround\nall\nround\ncrash 0 0 0\n")
	wantReport(t, "P16.1: another system", y.Report(), fresh)
}

// TestOneEdit: the chapter's script, step by step.
func TestOneEdit(t *testing.T) {
	x := newSystem(t, 1)
	site := func(step string, want api.ClientView) {
		t.Helper()
		want.ID = 1
		if got, e := x.Site(1); e != api.OK || word(got) != word(want) {
			t.Fatalf("%s: client 1 is %+v, %d, want %+v", step, got, e, want)
		}
	}
	flight := func(step string, want ...api.Datagram) {
		t.Helper()
		if got := x.Report().Flight; word(got) != word(want) {
			t.Fatalf("%s: in flight %+v, want %+v", step, got, want)
		}
	}
	up := func(m api.Msg) api.Datagram {
		m.Epoch, m.Client = 1, 1
		return api.Datagram{From: 1, Bytes: bytesOf(t, m)}
	}
	down := func(m api.Msg) api.Datagram {
		m.Epoch, m.Client = 1, 1
		return api.Datagram{To: 1, Bytes: bytesOf(t, m)}
	}
	op := api.Op{Kind: api.Insert, Ch: 'a', Client: 1, Seq: 1}
	text := []api.Elem{{Ch: 'a', Client: 1, Seq: 1}}
	view := api.ClientView{Made: 1, Doc: text, Pending: []api.Edit{{Op: op}}}

	playLine(t, x, "insert 1 0 a", 0)
	wantEvents(t, "step 0", x, 0, "step 0: site 1 have 0 made 1 i0a(1,1) [a1.1]")
	site("step 0", view)
	playLine(t, x, "round", 1)
	flight("step 1", down(api.Msg{Kind: api.MInvite}))
	playLine(t, x, "all", 1)
	view.Epoch = 1
	site("step 2", view)
	playLine(t, x, "round", 2)
	flight("step 3", up(api.Msg{Kind: api.MHello, First: 1}), down(api.Msg{Kind: api.MInvite}))
	playLine(t, x, "all", 2)
	site("step 4", view)
	if l := x.Report().Server.Links[0]; l != (api.LinkView{Open: true, From: 1}) {
		t.Fatalf("step 4: the link is %+v", l)
	}
	playLine(t, x, "round", 2)
	flight("step 5", up(api.Msg{Kind: api.MHello, First: 1}), down(api.Msg{Kind: api.MBeat}))
	playLine(t, x, "all", 2)
	view.Open = true
	site("step 6", view)
	playLine(t, x, "round", 2)
	flight("step 7", up(api.Msg{Kind: api.MEdit, Num: 1, Op: op}), down(api.Msg{Kind: api.MBeat}))
	playLine(t, x, "all", 2)
	r := x.Report()
	if logWord(r.Log) != "0:i0a(1,1)" || r.Server.Revs != 1 || r.Server.Synced != 0 || plain(r.Server.Doc) != "a" || len(r.Server.Told) != 0 || len(r.Disk) != 27 || r.Synced != 10 {
		t.Fatalf("step 8: P16.4: %s; log %s; %d bytes, %d synced", word(r.Server), logWord(r.Log), len(r.Disk), r.Synced)
	}
	wantEvents(t, "step 8", x, 1)
	playLine(t, x, "round", 2)
	wantEvents(t, "step 9", x, 1, "step 9: site 0 have 1 made 0 - [a1.1]")
	flight("step 9", up(api.Msg{Kind: api.MEdit, Num: 1, Op: op}), down(api.Msg{Kind: api.MRecord, Num: 1, Ack: 1, Rev: 1, Op: op}))
	playLine(t, x, "all", 2)
	wantEvents(t, "step 10", x, 2, "step 10: site 1 have 1 made 1 - [a1.1]")
	view.Have, view.Pending = 1, nil
	site("step 10", view)
	r = x.Report()
	if logWord(r.Log) != "0:i0a(1,1)" || r.Server.Synced != 1 || len(r.Disk) != 27 || r.Synced != 27 || len(r.Flight) != 0 || len(r.Steps) != 11 {
		t.Fatalf("example 1: %s; log %s; %d bytes, %d synced, %d steps", word(r.Server), logWord(r.Log), len(r.Disk), r.Synced, len(r.Steps))
	}
	const text1 = "clients 1\ninsert 1 0 a\nround\nall\nround\nall\nround\nall\nround\nall\nround\nall\n"
	wantReport(t, "P16.5: the same script by Run", system.Run(text1), r)
	wantReport(t, "P16.5: without the last byte 10", system.Run(strings.TrimSuffix(text1, "\n")), r)
}

func TestRunRefusesAWholeText(t *testing.T) {
	for _, c := range []struct {
		text string
		want api.Report
	}{
		{"clients 0", api.Report{Err: api.ErrHeader}}, // example 2
		{"", api.Report{Err: api.ErrHeader}},
		{"clients 65\nall\n", api.Report{Err: api.ErrHeader}},
		{"round\nall\n", api.Report{Err: api.ErrHeader}},
		{strings.Repeat("x", api.MaxScript+1), api.Report{Err: api.ErrScript, At: api.MaxScript}},
		{"clients 1\n" + strings.Repeat("all\n", api.MaxEntries+1), api.Report{Err: api.ErrMany, At: api.MaxEntries}},
	} {
		wantReport(t, "P16.5: Run of "+c.text[:min(len(c.text), 20)], system.Run(c.text), c.want)
	}
}

// TestRunPlaysEachLine: the refused ones are steps like others, and the rest is not touched by them.
func TestRunPlaysEachLine(t *testing.T) {
	r := system.Run("clients 2\n\nshout\ninsert 1 0\ninsert 2 0 a\ndeliver 2048\nforge 0 0\ntick 0\n")
	want := []api.Step{{Kind: api.EBad, Err: api.ErrVerb}, {Kind: api.EBad, Err: api.ErrVerb}, {Kind: api.EInsert, Err: api.ErrForm}, {Kind: api.EInsert},
		{Kind: api.EDeliver, Err: api.ErrRange}, {Kind: api.EForge, Err: api.ErrHex}, {Kind: api.ETick, Count: 2}}
	if r.Err != api.OK || r.At != 0 || r.Clients != 2 || !slices.Equal(r.Steps, want) {
		t.Fatalf("P16.5: steps %+v, want %+v", r.Steps, want)
	}
	if len(r.Events) != 1 || eventWord(r.Events[0]) != "step 3: site 2 have 0 made 1 i0a(2,1) [a2.1]" {
		t.Fatalf("P16.5: events %+v", r.Events)
	}
	wantReport(t, "P16.5: a header alone", system.Run("clients 64"), newSystem(t, 64).Report())
	most := "clients 1\n" + strings.Repeat("all\n", api.MaxEntries)
	if r := system.Run(most); r.Err != api.OK || len(r.Steps) != api.MaxEntries {
		t.Fatalf("P16.5: of %d lines: Err %d, %d steps", api.MaxEntries, r.Err, len(r.Steps))
	}
}

// settled plays a script's lines, and rounds behind it that let all come everywhere.
func settled(t *testing.T, clients int, lines string) api.Report {
	t.Helper()
	x := after(t, clients, lines+strings.Repeat("round\nall\n", 12))
	return x.Report()
}

func wantTexts(t *testing.T, what string, r api.Report, want string) {
	t.Helper()
	for _, v := range r.Sites {
		if plain(v.Doc) != want || len(v.Pending) != 0 || v.Have != len(r.Log) {
			t.Fatalf("%s: client %d has %q, %d records, %d pending; want %q", what, v.ID, plain(v.Doc), v.Have, len(v.Pending), want)
		}
	}
	if plain(r.Server.Doc) != want || plain(r.Server.Told) != want {
		t.Fatalf("%s: the server has %q, and told %q; want %q", what, plain(r.Server.Doc), plain(r.Server.Told), want)
	}
}

func TestExampleThree(t *testing.T) {
	x := newSystem(t, 1)
	refuseLine(t, x, "delete 1 0", api.ErrPos)
	wantEvents(t, "example 3", x, 0)
}

// TestExamplesFourAndFive: of two insertions at one place the earlier in the log stands left.
func TestExamplesFourAndFive(t *testing.T) {
	both := join + "insert 1 0 x\ninsert 2 0 y\n"
	wantTexts(t, "example 4", settled(t, 2, both+"tick 1\nall\ntick 2\nall\n"), "xy")
	wantTexts(t, "example 5", settled(t, 2, both+"tick 2\nall\ntick 1\nall\n"), "yx")
	wantTexts(t, "example 4: sent together", settled(t, 2, both+"round\nall\n"), "xy")
	wantTexts(t, "example 5: client 1's comes late", settled(t, 2, both+"round\ndrop 0\nall\n"), "yx")
}

func TestExampleSix(t *testing.T) {
	r := settled(t, 2, join+"insert 1 0 a\ninsert 1 1 b\n"+strings.Repeat("round\nall\n", 4)+"delete 1 0\ndelete 2 0\n")
	wantTexts(t, "example 6", r, "b")
	done, _, err := book.Replay(r.Log)
	if err != nil || len(done) != 4 || done[2].Kind != api.Delete || done[3].Kind != api.Nop {
		t.Fatalf("example 6: the done forms of %s: %+v, %v", logWord(r.Log), done, err)
	}
}

// logged is a system of one client whose edit is logged and not synced: 17 bytes of tail.
func logged(t *testing.T) *system.System {
	t.Helper()
	x := after(t, 1, join+"insert 1 0 a\ntick 1\nall\n")
	if r := x.Report(); logWord(r.Log) != "0:i0a(1,1)" || len(r.Disk)-r.Synced != 17 || r.Server.Synced != 0 {
		t.Fatalf("log %s, %d bytes of tail", logWord(r.Log), len(r.Disk)-r.Synced)
	}
	return x
}

// wantOnce lets a service that lost its server come to rest: its one edit must be in the log once.
func wantOnce(t *testing.T, what string, x *system.System) {
	t.Helper()
	playAll(t, x, strings.Repeat("round\nall\n", 6))
	r := x.Report()
	if logWord(r.Log) != "0:i0a(1,1)" {
		t.Fatalf("%s: the log is %s", what, logWord(r.Log))
	}
	wantTexts(t, what, r, "a")
}

func TestExampleSeven(t *testing.T) {
	x := logged(t)
	playLine(t, x, "crash 0 0 0", 17)
	playLine(t, x, "boot", 0)
	wantEvents(t, "example 7", x, 1, "step 10: site 0 have 0 made 0 - []")
	if r := x.Report(); len(r.Log) != 0 || r.Server.Epoch != 2 || len(r.Disk) != 20 || r.Synced != 20 {
		t.Fatalf("example 7: log %s, epoch %d", logWord(r.Log), r.Server.Epoch)
	}
	wantOnce(t, "example 7", x)
}

func TestExampleEight(t *testing.T) {
	x := logged(t)
	playLine(t, x, "crash 17 0 0", 0)
	playLine(t, x, "boot", 0)
	wantEvents(t, "example 8", x, 1, "step 10: site 0 have 1 made 0 - [a1.1]")
	if r := x.Report(); logWord(r.Log) != "0:i0a(1,1)" || r.Server.Synced != 1 || plain(r.Server.Told) != "a" || len(r.Disk) != 37 || r.Synced != 37 {
		t.Fatalf("example 8: log %s, %s", logWord(r.Log), word(r.Server))
	}
	wantOnce(t, "example 8", x)
}

func TestExampleNine(t *testing.T) {
	for at := range 17 {
		for _, mask := range []int{1, 2, 16, 128, 255} {
			x := logged(t)
			play(t, x, api.Entry{Kind: api.ECrash, A: 17, B: at, C: mask}, 0)
			if r := x.Report(); len(r.Log) != 0 || len(r.Disk) != 27 || r.Synced != 27 {
				t.Fatalf("example 9: P16.4: the server is down: log %s, %d bytes, %d synced", logWord(r.Log), len(r.Disk), r.Synced)
			}
			playLine(t, x, "boot", 17)
			wantEvents(t, "example 9", x, 1, "step 10: site 0 have 0 made 0 - []")
			wantOnce(t, "example 9", x)
		}
	}
}

// inFlight gives for each kind of messages a system with just one of it in flight.
func inFlight(t *testing.T) map[string]*system.System {
	t.Helper()
	return map[string]*system.System{
		"Invite": after(t, 1, "tick 0\n"),
		"Hello":  after(t, 1, "tick 0\nall\ntick 1\n"),
		"Beat":   after(t, 1, join+"tick 0\n"),
		"Nod":    after(t, 1, join+"tick 1\n"),
		"Edit":   after(t, 1, join+"insert 1 0 a\ntick 1\n"),
		"Record": after(t, 1, join+"insert 1 0 a\ntick 1\nall\ntick 0\n"),
	}
}

// TestExampleTen: a datagram flipped at any byte by any mask is refused, and nothing changes.
func TestExampleTen(t *testing.T) {
	for kind, x := range inFlight(t) {
		before := x.Report()
		size := len(before.Flight[0].Bytes)
		for at := range size {
			for mask := 1; mask < 256; mask++ {
				playLine(t, x, "double 0", 1)
				play(t, x, api.Entry{Kind: api.EFlip, A: 1, B: at, C: mask}, 1)
				if s := x.Do(api.Entry{Kind: api.EDeliver, A: 1}); s.Err != api.ErrDatagram || s.Count != 1 {
					t.Fatalf("example 10, P16.12: a flipped %s: %+v", kind, s)
				}
			}
		}
		r := x.Report()
		r.Steps = before.Steps
		wantReport(t, "example 10, P16.12: behind flipped ones", r, before)
		playLine(t, x, "deliver 0", 1)
	}
}

// TestSite: a view of one client alone.
func TestSite(t *testing.T) {
	x := after(t, 3, join+"insert 1 0 a\ninsert 3 0 b\nround\nall\nround\nall\ninsert 2 1 c\n")
	r := x.Report()
	for id := 1; id <= 3; id++ {
		if v, e := x.Site(id); e != api.OK || word(v) != word(r.Sites[id-1]) || v.ID != id {
			t.Fatalf("P16.4: Site(%d) = %+v, %d, want %+v", id, v, e, r.Sites[id-1])
		}
	}
	for _, id := range []int{math.MinInt, -1, 0, 4, 64, 65, 1<<32 + 1, math.MaxInt} {
		if v, e := x.Site(id); e != api.ErrSite || word(v) != word(api.ClientView{}) {
			t.Fatalf("P16.4: Site(%d) = %+v, %d, want ErrSite", id, v, e)
		}
	}
	wantReport(t, "P16.4: Site changes nothing", x.Report(), r)
}

// TestReportOfAServerThatIsDown: the log is what a start would find; all bytes count as synced; nothing is cut by asking.
func TestReportOfAServerThatIsDown(t *testing.T) {
	for _, c := range []struct {
		crash string
		log   string
		size  int
	}{{"crash 0 0 0", "0:i0a(1,1)", 27}, {"crash 16 0 0", "0:i0a(1,1)", 43}, {"crash 17 0 0", "0:i0a(1,1) 1:i1b(1,2)", 44}, {"crash 34 0 0", "0:i0a(1,1) 1:i1b(1,2) 1:i2c(1,3)", 61},
		{"crash 34 18 9", "0:i0a(1,1) 1:i1b(1,2)", 61}, {"crash 34 5 9", "0:i0a(1,1)", 61}} {
		x := after(t, 1, join+"insert 1 0 a\nround\nall\nround\nall\ninsert 1 1 b\ninsert 1 2 c\ntick 1\nall\n"+c.crash+"\n")
		r := x.Report()
		if word(r.Server) != word(api.ServerView{}) || logWord(r.Log) != c.log || len(r.Disk) != c.size || r.Synced != c.size {
			t.Fatalf("P16.4: behind %s: %s; log %s; %d bytes, %d synced; want %s, %d", c.crash, word(r.Server), logWord(r.Log), len(r.Disk), r.Synced, c.log, c.size)
		}
		wantReport(t, "P16.4: a second report", x.Report(), r)
		playLine(t, x, "boot", c.size-27-17*strings.Count(c.log, " "))
		up := x.Report()
		if logWord(up.Log) != c.log || up.Server.Epoch != 2 || up.Server.Revs != len(r.Log) || up.Server.Synced != len(r.Log) || len(up.Disk) != 20+17*len(r.Log) || up.Synced != len(up.Disk) {
			t.Fatalf("P16.11: behind %s and a start: %s; log %s; %d bytes, %d synced", c.crash, word(up.Server), logWord(up.Log), len(up.Disk), up.Synced)
		}
		if !bytes.HasPrefix(up.Disk, r.Disk[:10+17*len(r.Log)]) {
			t.Fatalf("P16.11: the start changed what it kept")
		}
	}
}

func TestBound(t *testing.T) {
	for _, c := range []struct {
		b, lag, pending, want int
		e                     api.Errno
	}{{1, 0, 0, 8, 0}, {7, 0, 0, 56, 0}, {1, 0, 8, 12, 0}, {1, 0, 9, 16, 0}, {1, 8, 0, 10, 0}, {1, 9, 0, 12, 0}, {1, 7, 1, 12, 0}, {1, 7, 2, 14, 0}, {1000, 4096, 4096, 3080000, 0},
		{0, 0, 0, 0, api.ErrArg}, {-1, 0, 0, 0, api.ErrArg}, {1001, 0, 0, 0, api.ErrArg}, {1, -1, 0, 0, api.ErrArg}, {1, 4097, 0, 0, api.ErrArg}, {1, 0, -1, 0, api.ErrArg}, {1, 0, 4097, 0, api.ErrArg},
		{math.MaxInt, 0, 0, 0, api.ErrArg}, {1, math.MaxInt, math.MaxInt, 0, api.ErrArg}, {math.MinInt, math.MinInt, math.MinInt, 0, api.ErrArg}, {1, 0, math.MaxInt, 0, api.ErrArg}} {
		if n, e := system.Bound(c.b, c.lag, c.pending); n != c.want || e != c.e {
			t.Fatalf("P16.6: Bound(%d, %d, %d) = %d, %d, want %d, %d", c.b, c.lag, c.pending, n, e, c.want, c.e)
		}
	}
	least := func(n int) int { // the least whole number not below n/8
		w := 0
		for 8*w < n {
			w++
		}
		return w
	}
	for _, b := range []int{1, 2, 999, 1000} {
		for lag := 0; lag <= api.MaxLog; lag += 1 + lag/7 {
			for pending := 0; pending <= api.MaxLog; pending += 1 + pending/7 {
				want := b * (8 + 2*least(pending) + 2*least(lag+pending))
				if n, e := system.Bound(b, lag, pending); n != want || e != api.OK {
					t.Fatalf("P16.6: Bound(%d, %d, %d) = %d, %d, want %d", b, lag, pending, n, e, want)
				}
			}
		}
	}
}
