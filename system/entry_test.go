package system_test

import (
	"math"
	"slices"
	"strconv"
	"strings"
	"testing"

	"jotter/api"
	"jotter/system"
)

// far are numbers that no client, place or datagram has.
var far = []int{math.MinInt, -1 << 32, -1, 1 << 32, math.MaxInt}

func TestUnknownKinds(t *testing.T) {
	x := after(t, 2, join+"insert 1 0 a\nround\n")
	for _, kind := range append(far, api.EBad, 14, 15, 256+api.EAll) {
		refuse(t, x, api.Entry{Kind: kind}, api.ErrVerb)
		refuse(t, x, api.Entry{Kind: kind, Err: api.ErrHex}, api.ErrHex)
	}
}

// right gives of each kind an entry that is played on the system that stands beside it.
func right(t *testing.T) map[int]func() (*system.System, api.Entry) {
	t.Helper()
	const flying = join + "insert 1 0 a\nround\n" // an Edit, a Nod, two Beats
	of := func(lines, line string) func() (*system.System, api.Entry) {
		return func() (*system.System, api.Entry) { return after(t, 2, lines), entry(line) }
	}
	return map[int]func() (*system.System, api.Entry){
		api.EInsert:  of(flying, "insert 2 0 b"),
		api.EDelete:  of(flying, "delete 1 0"),
		api.ETick:    of(flying, "tick 2"),
		api.EDeliver: of(flying, "deliver 0"),
		api.EDrop:    of(flying, "drop 1"),
		api.EDouble:  of(flying, "double 2"),
		api.EFlip:    of(flying, "flip 3 4 5"),
		api.EAll:     of(flying, "all"),
		api.ERound:   of(flying, "round"),
		api.ECrash:   of(flying+"all\n", "crash 9 8 7"),
		api.EBoot:    of(flying+"all\ncrash 9 8 7\n", "boot"),
		api.EStumble: of(flying+"all\ncrash 9 8 7\n", "stumble 5 4 3"),
		api.EForge: func() (*system.System, api.Entry) {
			return after(t, 2, flying), forge(t, 0, api.Msg{Kind: api.MNod, Epoch: 1, Client: 2})
		},
	}
}

// TestAnEntrysOwnErr: it is refused with that, whatever its kind, and however right the rest of it is.
func TestAnEntrysOwnErr(t *testing.T) {
	for kind := api.EInsert; kind <= api.EForge; kind++ {
		for _, own := range []api.Errno{api.Other, api.ErrForm, api.ErrRange, api.ErrSite, -7, math.MaxInt} {
			x, e := right(t)[kind]()
			e.Err = own
			refuse(t, x, e, own)
		}
	}
}

// TestForeignFields: fields that an entry does not name are not looked at.
func TestForeignFields(t *testing.T) {
	named := map[int]string{api.EInsert: "Site A Ch", api.EDelete: "Site A", api.ETick: "Site", api.EDeliver: "A", api.EDrop: "A", api.EDouble: "A", api.EFlip: "A B C",
		api.EAll: "", api.ERound: "", api.ECrash: "A B C", api.EBoot: "", api.EStumble: "A B C", api.EForge: "Site Bytes"}
	for kind := api.EInsert; kind <= api.EForge; kind++ {
		for _, wild := range append(far, 1, 2, 65) {
			x, e := right(t)[kind]()
			y, w := right(t)[kind]()
			for name, field := range map[string]*int{"Site": &w.Site, "A": &w.A, "B": &w.B, "C": &w.C} {
				if !slices.Contains(strings.Fields(named[kind]), name) {
					*field = wild
				}
			}
			if kind != api.EInsert {
				w.Ch = byte(wild)
			}
			if kind != api.EForge {
				w.Bytes = make([]byte, 100)
			}
			s, step := x.Do(e), y.Do(w)
			if s.Err != api.OK || s != step {
				t.Fatalf("P16.2: %s: %+v; %s: %+v", entryWord(e), s, entryWord(w), step)
			}
			wantReport(t, "P16.2: fields that are not named: "+entryWord(w), y.Report(), x.Report())
		}
	}
}

func TestInsert(t *testing.T) {
	x := after(t, 2, join)
	for _, site := range append(far, 0, 3, 64) {
		refuse(t, x, api.Entry{Kind: api.EInsert, Site: site, A: -1, Ch: 7}, api.ErrSite)
	}
	for _, ch := range []byte{0, 31, 127, 255} {
		refuse(t, x, api.Entry{Kind: api.EInsert, Site: 1, A: 5, Ch: ch}, api.ErrCh)
	}
	for _, pos := range append(far, 1, 4095) {
		refuse(t, x, api.Entry{Kind: api.EInsert, Site: 1, A: pos, Ch: 'a'}, api.ErrPos)
	}
	playLine(t, x, "insert 1 0  ", 0)
	playLine(t, x, "insert 1 1 ~", 0)
	playLine(t, x, "insert 2 0 y", 0)
	playLine(t, x, "insert 1 1 x", 0)
	wantEvents(t, "P16.3", x, 0, "step 25: site 1 have 0 made 1 i0 (1,1) [ 1.1]", "step 26: site 1 have 0 made 2 i1~(1,2) [ 1.1 ~1.2]",
		"step 27: site 2 have 0 made 1 i0y(2,1) [y2.1]", "step 28: site 1 have 0 made 3 i1x(1,3) [ 1.1 x1.3 ~1.2]")
	for n := 4; n <= api.MaxEdits; n++ {
		playLine(t, x, "insert 1 0 a", 0)
	}
	refuseLine(t, x, "insert 1 0 a", api.ErrQuota)
	refuseLine(t, x, "delete 1 0", api.ErrQuota)
	refuseLine(t, x, "delete 1 64", api.ErrPos)
	playLine(t, x, "insert 2 0 a", 0)
}

func TestDelete(t *testing.T) {
	x := after(t, 2, join+"insert 1 0 a\ninsert 1 1 b\n"+strings.Repeat("round\nall\n", 4))
	for _, site := range append(far, 0, 3, 64) {
		refuse(t, x, api.Entry{Kind: api.EDelete, Site: site, A: -1}, api.ErrSite)
	}
	for _, pos := range append(far, 2, 4095) {
		refuse(t, x, api.Entry{Kind: api.EDelete, Site: 2, A: pos}, api.ErrPos)
	}
	from := len(x.Report().Events)
	playLine(t, x, "delete 2 1", 0)
	playLine(t, x, "delete 2 0", 0)
	refuseLine(t, x, "delete 2 0", api.ErrPos)
	playLine(t, x, "delete 1 0", 0)
	wantEvents(t, "P16.3", x, from, "step 31: site 2 have 2 made 1 d1(2,1) [a1.1]", "step 32: site 2 have 2 made 2 d0(2,2) []", "step 34: site 1 have 2 made 3 d0(1,3) [b1.2]")
}

// TestTick: each site's datagrams go into flight in their order, to the one that they are for.
func TestTick(t *testing.T) {
	x := newSystem(t, 3)
	wantFlight := func(want ...string) {
		t.Helper()
		var got []string
		for _, g := range x.Report().Flight {
			got = append(got, strconv.Itoa(g.From)+">"+strconv.Itoa(g.To)+" "+strconv.Itoa(int(g.Bytes[0])))
		}
		if !slices.Equal(got, want) {
			t.Fatalf("P16.2: in flight %v, want %v", got, want)
		}
	}
	for _, site := range append(far, 4, 64) {
		refuse(t, x, api.Entry{Kind: api.ETick, Site: site}, api.ErrSite)
	}
	playLine(t, x, "tick 1", 0) // in no epoch
	wantFlight()
	playLine(t, x, "tick 0", 3)
	wantFlight("0>1 4", "0>2 4", "0>3 4")
	playLine(t, x, "all", 3)
	playLine(t, x, "tick 3", 1)
	playLine(t, x, "tick 1", 1)
	playLine(t, x, "tick 3", 1)
	wantFlight("3>0 1", "1>0 1", "3>0 1")
	playLine(t, x, "all", 3)
	playLine(t, x, "tick 0", 3)
	wantFlight("0>1 6", "0>2 4", "0>3 6")
	playLine(t, x, "all", 3)
	playAll(t, x, strings.Repeat("insert 1 0 a\n", 10))
	playLine(t, x, "tick 1", 8)
	playLine(t, x, "tick 2", 1)
	playLine(t, x, "tick 3", 1)
	wantFlight("1>0 2", "1>0 2", "1>0 2", "1>0 2", "1>0 2", "1>0 2", "1>0 2", "1>0 2", "2>0 1", "3>0 3")
	playLine(t, x, "all", 10)
	playLine(t, x, "tick 0", 24)
	playLine(t, x, "all", 24)
	playLine(t, x, "round", 2+1+1+24)
	playLine(t, x, "crash 0 0 0", 0)
	refuseLine(t, x, "tick 0", api.ErrDown)
	refuseLine(t, x, "tick 4", api.ErrSite)
	playLine(t, x, "tick 1", 2)
	playLine(t, x, "round", 4)
}

// TestDeliver: the datagram is out of flight, whatever becomes of it.
func TestDeliver(t *testing.T) {
	x := newSystem(t, 2)
	for _, i := range append(far, 0, 1, 2047) {
		refuse(t, x, api.Entry{Kind: api.EDeliver, A: i}, api.ErrNone)
	}
	playLine(t, x, "tick 0", 2)
	refuse(t, x, api.Entry{Kind: api.EDeliver, A: 2}, api.ErrNone)
	playLine(t, x, "deliver 1", 1) // client 2's
	if v, _ := x.Site(2); v.Epoch != 1 {
		t.Fatalf("P16.2: client 2 did not get its Invite: %+v", v)
	}
	if v, _ := x.Site(1); v.Epoch != 0 {
		t.Fatalf("P16.2: client 1 got an Invite that was not delivered: %+v", v)
	}
	playLine(t, x, "deliver 0", 1)
	playLine(t, x, "tick 2", 1)
	playLine(t, x, "deliver 0", 1) // a Hello: the session is open
	playLine(t, x, "tick 0", 2)
	playLine(t, x, "crash 0 0 0", 0) // what is in flight stays there
	playLine(t, x, "tick 1", 1)
	if n := len(x.Report().Flight); n != 3 {
		t.Fatalf("P16.2: behind a crash %d in flight, want 3", n)
	}
	refuseGone(t, x, 2, api.ErrDown)
	playLine(t, x, "boot", 0)
	playLine(t, x, "tick 0", 2)
	playLine(t, x, "deliver 2", 1)
	playLine(t, x, "deliver 2", 1)
	refuseGone(t, x, 0, api.ErrStale) // the first epoch's Invite and Beat
	refuseGone(t, x, 0, api.ErrStale)
	refuse(t, x, api.Entry{Kind: api.EDeliver}, api.ErrNone)
}

func TestDropDoubleFlip(t *testing.T) {
	x := after(t, 2, "tick 0\n")
	for _, i := range append(far, 2, 2047) {
		refuse(t, x, api.Entry{Kind: api.EDrop, A: i}, api.ErrNone)
		refuse(t, x, api.Entry{Kind: api.EDouble, A: i}, api.ErrNone)
		refuse(t, x, api.Entry{Kind: api.EFlip, A: i, B: -1, C: 0}, api.ErrNone)
	}
	for _, c := range append(far, 0, 256) {
		refuse(t, x, api.Entry{Kind: api.EFlip, A: 1, B: 0, C: c}, api.ErrFlip)
	}
	for _, b := range append(far, 7, 63) {
		refuse(t, x, api.Entry{Kind: api.EFlip, A: 1, B: b, C: 1}, api.ErrFlip)
	}
	playLine(t, x, "flip 1 6 255", 1)
	refuseLine(t, x, "flip 1 6 255", api.ErrSpoilt)
	refuseLine(t, x, "flip 1 7 255", api.ErrFlip)
	before := x.Report().Flight
	playLine(t, x, "double 1", 1)
	refuseLine(t, x, "flip 2 0 1", api.ErrSpoilt)
	if got := x.Report().Flight; word(got) != word([]api.Datagram{before[0], before[1], before[1]}) || !got[2].Spoilt || got[0].Spoilt {
		t.Fatalf("P16.2: in flight %+v", got)
	}
	playLine(t, x, "drop 0", 1)
	if got := x.Report().Flight; word(got) != word([]api.Datagram{before[1], before[1]}) {
		t.Fatalf("P16.2: in flight %+v", got)
	}
	refuseGone(t, x, 1, api.ErrDatagram)
	refuseGone(t, x, 0, api.ErrDatagram)
	refuseLine(t, x, "drop 0", api.ErrNone)
}

// TestAll: as many as are in flight at its beginning, the oldest first, whatever each comes to.
func TestAll(t *testing.T) {
	x := newSystem(t, 2)
	playLine(t, x, "all", 0)
	playAll(t, x, join+"insert 1 0 a\ninsert 2 0 b\n")
	playLine(t, x, "round", 4)
	playLine(t, x, "flip 0 0 1", 1) // client 1's Edit is refused
	playLine(t, x, "double 1", 1)   // client 2's comes twice
	playLine(t, x, "all", 5)
	r := x.Report()
	if logWord(r.Log) != "0:i0b(2,1)" || len(r.Flight) != 0 {
		t.Fatalf("P16.2: log %s, %d in flight", logWord(r.Log), len(r.Flight))
	}
	playLine(t, x, "round", 4)
	playLine(t, x, "crash 0 0 0", 0)
	playLine(t, x, "all", 4) // two Edits to nobody, two Records
	if r := x.Report(); logWord(r.Log) != "0:i0b(2,1)" || r.Sites[0].Have != 1 || r.Sites[1].Have != 1 || len(r.Flight) != 0 {
		t.Fatalf("P16.2: the server is down: log %s, %s", logWord(r.Log), word(r.Sites))
	}
}

// TestAllShowsEachDatagram: one event for each datagram that brings records, in their order.
func TestAllShowsEachDatagram(t *testing.T) {
	x := after(t, 2, join+"insert 1 0 a\ninsert 1 1 b\ninsert 1 2 c\nround\nall\n")
	from := len(x.Report().Events)
	playLine(t, x, "tick 0", 6) // Records 1 to 3 for client 1, then for client 2
	playLine(t, x, "all", 6)
	wantEvents(t, "P16.3", x, from, "step 11: site 0 have 3 made 0 - [a1.1 b1.2 c1.3]",
		"step 12: site 1 have 1 made 3 - [a1.1 b1.2 c1.3]", "step 12: site 1 have 2 made 3 - [a1.1 b1.2 c1.3]", "step 12: site 1 have 3 made 3 - [a1.1 b1.2 c1.3]",
		"step 12: site 2 have 1 made 0 - [a1.1]", "step 12: site 2 have 2 made 0 - [a1.1 b1.2]", "step 12: site 2 have 3 made 0 - [a1.1 b1.2 c1.3]")
}

// TestOneEventForOneDatagram: however many records come out of the reorder buffer; none for one that brings no record.
func TestOneEventForOneDatagram(t *testing.T) {
	x := after(t, 2, join+"insert 1 0 a\ninsert 1 1 b\ninsert 1 2 c\nround\nall\ntick 0\n")
	from := len(x.Report().Events)
	playLine(t, x, "double 4", 1)
	playLine(t, x, "deliver 5", 1) // client 2's third
	playLine(t, x, "deliver 4", 1) // its second
	playLine(t, x, "deliver 4", 1) // its second again
	wantEvents(t, "P16.3: held", x, from)
	playLine(t, x, "insert 2 0 x", 0)
	playLine(t, x, "deliver 3", 1)
	wantEvents(t, "P16.3", x, from, "step 16: site 2 have 0 made 1 i0x(2,1) [x2.1]", "step 17: site 2 have 3 made 1 - [a1.1 b1.2 c1.3 x2.1]")
	playLine(t, x, "tick 0", 6)
	playLine(t, x, "deliver 8", 1)
	wantEvents(t, "P16.3: a duplicate, and a tick that syncs nothing", x, from+2)
}

// TestRound: clients 1 to n, then the server; if that is down, the clients alone.
func TestRound(t *testing.T) {
	for _, lines := range []string{"", join, join + "insert 2 0 a\n", join + "insert 2 0 a\nround\nall\n", join + "crash 0 0 0\n", join + "insert 3 0 a\nround\nall\ncrash 17 0 0\nboot\n"} {
		x, y := after(t, 3, lines), after(t, 3, lines)
		sent, from := 0, len(y.Report().Steps)
		for _, site := range []int{1, 2, 3, 0} {
			sent += y.Do(api.Entry{Kind: api.ETick, Site: site}).Count
		}
		playLine(t, x, "round", sent)
		got, want := x.Report(), y.Report()
		want.Steps = append(want.Steps[:from], api.Step{Kind: api.ERound, Count: sent})
		for i := range want.Events {
			want.Events[i].Step = min(want.Events[i].Step, from)
		}
		wantReport(t, "P16.2: a round is a tick of each, behind "+lines, got, want)
	}
}

func TestCrash(t *testing.T) {
	x := after(t, 1, join+"insert 1 0 a\ninsert 1 1 b\ntick 1\nall\n") // a tail of 34 bytes
	for _, keep := range append(far, 35, 262144) {
		refuse(t, x, api.Entry{Kind: api.ECrash, A: keep, B: -1, C: 300}, api.ErrKeep)
	}
	for _, at := range append(far, 20, 34) {
		refuse(t, x, api.Entry{Kind: api.ECrash, A: 20, B: at, C: 1}, api.ErrGarble)
	}
	for _, mask := range append(far, 256) {
		refuse(t, x, api.Entry{Kind: api.ECrash, A: 20, B: 0, C: mask}, api.ErrGarble)
	}
	play(t, x, api.Entry{Kind: api.ECrash, A: 20, B: math.MinInt, C: 0}, 14)
	if r := x.Report(); r.Server.Up || len(r.Disk) != 30 || r.Synced != 30 || logWord(r.Log) != "0:i0a(1,1)" {
		t.Fatalf("P16.2: behind the crash: log %s, %d bytes, %d synced", logWord(r.Log), len(r.Disk), r.Synced)
	}
	refuse(t, x, api.Entry{Kind: api.ECrash, A: 99, B: 0, C: 300}, api.ErrDown)
	refuseLine(t, x, "crash 0 0 0", api.ErrDown)
	playLine(t, x, "boot", 3)
	if r := x.Report(); logWord(r.Log) != "0:i0a(1,1)" || r.Server.Epoch != 2 {
		t.Fatalf("P16.11: log %s, epoch %d", logWord(r.Log), r.Server.Epoch)
	}
	for keep := range 35 {
		y := after(t, 1, join+"insert 1 0 a\ninsert 1 1 b\ntick 1\nall\n")
		play(t, y, api.Entry{Kind: api.ECrash, A: keep}, 34-keep)
		play(t, y, api.Entry{Kind: api.EBoot}, keep%17)
		if r := y.Report(); len(r.Log) != keep/17 || r.Server.Revs != keep/17 || r.Server.Synced != keep/17 {
			t.Fatalf("P16.11: of a tail of 34 bytes %d are kept: log %s", keep, logWord(r.Log))
		}
	}
}

func TestBoot(t *testing.T) {
	x := after(t, 2, join)
	refuseLine(t, x, "boot", api.ErrUp)
	playLine(t, x, "crash 0 0 0", 0)
	playLine(t, x, "boot", 0)
	wantEvents(t, "P16.3: a start with nothing shows that", x, 0, "step 8: site 0 have 0 made 0 - []")
	refuseLine(t, x, "boot", api.ErrUp)
	r := x.Report()
	if !r.Server.Up || r.Server.Epoch != 2 || len(r.Server.Links) != 2 || r.Server.Links[0].Open || len(r.Disk) != 20 || r.Synced != 20 || !r.Sites[0].Open || r.Sites[0].Epoch != 1 {
		t.Fatalf("P16.2: behind a start: %s, %s", word(r.Server), word(r.Sites))
	}
}

// TestBootShowsAllItsRecords: those that were synced before, and those that the crash left.
func TestBootShowsAllItsRecords(t *testing.T) {
	x := after(t, 1, join+"insert 1 0 a\nround\nall\nround\nall\ninsert 1 1 b\ntick 1\nall\ncrash 17 0 0\n")
	from := len(x.Report().Events)
	playLine(t, x, "boot", 0)
	wantEvents(t, "P16.3", x, from, "step 15: site 0 have 2 made 0 - [a1.1 b1.2]")
	playLine(t, x, "tick 0", 1)
	wantEvents(t, "P16.3: a tick that syncs nothing", x, from+1)
}

func TestStumble(t *testing.T) {
	x := after(t, 1, join)
	refuse(t, x, api.Entry{Kind: api.EStumble, A: 99, C: 300}, api.ErrUp)
	playAll(t, x, "insert 1 0 a\ninsert 1 1 b\ntick 1\nall\ncrash 20 0 0\n") // ten bytes of a boot, 17 of an edit, three torn ones
	for _, keep := range append(far, 11, 262144) {
		refuse(t, x, api.Entry{Kind: api.EStumble, A: keep, B: -1, C: 300}, api.ErrKeep)
	}
	for _, at := range append(far, 4, 10) {
		refuse(t, x, api.Entry{Kind: api.EStumble, A: 4, B: at, C: 1}, api.ErrGarble)
	}
	for _, mask := range append(far, 256) {
		refuse(t, x, api.Entry{Kind: api.EStumble, A: 4, B: 0, C: mask}, api.ErrGarble)
	}
	wantDisk := func(what string, size, epochs int) {
		t.Helper()
		r := x.Report()
		list, _ := items(r.Disk)
		if r.Server.Up || len(r.Disk) != size || r.Synced != size || len(boots(list)) != epochs || logWord(r.Log) != "0:i0a(1,1)" {
			t.Fatalf("P16.2: %s: %d bytes, %d synced, boots %v, log %s; want %d bytes, %d boots", what, len(r.Disk), r.Synced, boots(list), logWord(r.Log), size, epochs)
		}
	}
	wantDisk("refused stumbles cut nothing off", 30, 1)
	play(t, x, api.Entry{Kind: api.EStumble, A: 4, B: math.MinInt, C: 0}, 3)
	wantDisk("the torn edit is cut off, the boot is torn", 31, 1)
	playLine(t, x, "stumble 0 0 0", 4)
	wantDisk("nothing of the boot is kept", 27, 1)
	playLine(t, x, "stumble 10 0 0", 0)
	wantDisk("all of the boot is kept", 37, 2)
	playLine(t, x, "stumble 10 9 128", 0)
	wantDisk("all of the boot is kept, garbled", 47, 2)
	playLine(t, x, "stumble 10 0 0", 10)
	wantDisk("all of the boot is kept", 47, 3)
	from := len(x.Report().Events)
	playLine(t, x, "boot", 0)
	if e := x.Report().Server.Epoch; e != 4 {
		t.Fatalf("P16.2: the start behind two kept boots is of epoch %d, want 4", e)
	}
	wantEvents(t, "P16.3: no stumble shows anything", x, from, "step 37: site 0 have 1 made 0 - [a1.1]")
	wantOnceAgain := after(t, 1, join+"crash 0 0 0\nstumble 10 0 0\nboot\ninsert 1 0 a\n")
	wantOnce(t, "P16.7: behind a stumble", wantOnceAgain)
}

// TestForge: bytes of whatever kind, to whomever, as if they had been delivered.
func TestForge(t *testing.T) {
	x := after(t, 2, join)
	invite := bytesOf(t, api.Msg{Kind: api.MInvite, Epoch: 2, Client: 1})
	for _, site := range append(far, 3, 64) {
		refuse(t, x, api.Entry{Kind: api.EForge, Site: site, Bytes: invite}, api.ErrSite)
	}
	for site := range 3 {
		refuse(t, x, api.Entry{Kind: api.EForge, Site: site}, api.ErrLength)
		refuse(t, x, api.Entry{Kind: api.EForge, Site: site, Bytes: make([]byte, 64)}, api.ErrDatagram)
		refuse(t, x, api.Entry{Kind: api.EForge, Site: site, Bytes: make([]byte, 65)}, api.ErrFrame)
		refuse(t, x, api.Entry{Kind: api.EForge, Site: site, Bytes: make([]byte, 1<<20)}, api.ErrFrame)
	}
	refuse(t, x, api.Entry{Kind: api.EForge, Site: 0, Bytes: invite}, api.ErrStray)
	refuse(t, x, api.Entry{Kind: api.EForge, Site: 2, Bytes: invite}, api.ErrMine)
	refuse(t, x, forge(t, 1, api.Msg{Kind: api.MBeat, Epoch: 1, Client: 1, Ack: 1}), api.ErrAck)
	refuse(t, x, forge(t, 0, api.Msg{Kind: api.MNod, Epoch: 1, Client: 3}), api.ErrStranger)
	refuse(t, x, forge(t, 0, api.Msg{Kind: api.MNod, Epoch: 2, Client: 1}), api.ErrStale)
	op := api.Op{Kind: api.Insert, Ch: 'f', Client: 2, Seq: 1}
	play(t, x, forge(t, 1, api.Msg{Kind: api.MRecord, Epoch: 1, Client: 1, Num: 1, Rev: 1, Op: op}), 0)
	wantEvents(t, "P16.3: a forged record is taken in", x, 0, "step 30: site 1 have 1 made 0 - [f2.1]")
	play(t, x, forge(t, 0, api.Msg{Kind: api.MEdit, Epoch: 1, Client: 2, Num: 1, Op: op}), 0)
	if r := x.Report(); logWord(r.Log) != "0:i0f(2,1)" || r.Server.Synced != 0 {
		t.Fatalf("P16.2: a forged edit: log %s", logWord(r.Log))
	}
	wantEvents(t, "P16.3: an edit that comes to the server shows nothing", x, 1)
	playLine(t, x, "crash 0 0 0", 17)
	refuse(t, x, api.Entry{Kind: api.EForge, Site: 0, Bytes: invite}, api.ErrDown)
	refuse(t, x, api.Entry{Kind: api.EForge, Site: 3, Bytes: invite}, api.ErrSite)
	play(t, x, api.Entry{Kind: api.EForge, Site: 1, Bytes: invite}, 0)
	if v, _ := x.Site(1); v.Epoch != 2 || v.Open {
		t.Fatalf("P16.2: a forged Invite: %+v", v)
	}
}
