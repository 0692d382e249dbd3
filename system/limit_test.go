package system_test

import (
	"fmt"
	"runtime"
	"slices"
	"strings"
	"sync"
	"testing"
	"time"

	"jotter/api"
	"jotter/system"
)

// TestFullNetwork: what it loses is lost, and no error; it does not count.
func TestFullNetwork(t *testing.T) {
	x := after(t, 63, strings.Repeat("tick 0\n", 32)) // 32 times 63 Invites
	playLine(t, x, "tick 0", 2048-32*63)
	playLine(t, x, "tick 0", 0)
	playLine(t, x, "round", 0)
	refuseLine(t, x, "double 7", api.ErrLost)
	refuse(t, x, api.Entry{Kind: api.EDouble, A: 2048}, api.ErrNone)
	playLine(t, x, "deliver 2047", 1) // to client 32: the last one that found room
	if v, _ := x.Site(32); v.Epoch != 1 {
		t.Fatalf("P16.2: the newest datagram was not client 32's: %+v", v)
	}
	playLine(t, x, "deliver 0", 1)
	playLine(t, x, "round", 2) // two Hellos, and no Invite
	flight := x.Report().Flight
	if g, h := flight[2046], flight[2047]; g.From != 1 || h.From != 32 {
		t.Fatalf("P16.2: the newest ones come from %d and %d, want 1 and 32", g.From, h.From)
	}
	playLine(t, x, "all", 2048)
	playLine(t, x, "all", 0)
}

// TestFullNetworkSyncs: a tick whose datagrams are all lost syncs and shows like any.
func TestFullNetworkSyncs(t *testing.T) {
	x := after(t, 2, join+"insert 1 0 a\ntick 1\ndeliver 0\ntick 2\n"+strings.Repeat("double 0\n", 2047))
	from := len(x.Report().Events)
	playLine(t, x, "tick 0", 0)
	wantEvents(t, "P16.3: a full network", x, from, fmt.Sprint("step ", len(x.Report().Steps)-1, ": site 0 have 1 made 0 - [a1.1]"))
	if r := x.Report(); r.Server.Synced != 1 || r.Synced != 27 || r.Server.Links[0].Sent != 1 {
		t.Fatalf("P16.2: %d synced, %+v", r.Server.Synced, r.Server.Links[0])
	}
}

// epochs gives a system of one client whose server is down, with that many boots in its log.
func epochs(t *testing.T, n int) *system.System {
	t.Helper()
	return after(t, 1, strings.Repeat("crash 0 0 0\nboot\n", n-1)+"crash 0 0 0\n")
}

// TestLastEpochs: there is always a start left.
func TestLastEpochs(t *testing.T) {
	x := epochs(t, 254)
	refuseLine(t, x, "stumble 0 0 0", api.ErrEpochs)
	refuse(t, x, api.Entry{Kind: api.EStumble, A: -1, B: -1, C: 300}, api.ErrEpochs)
	playLine(t, x, "boot", 0)
	if e := x.Report().Server.Epoch; e != api.MaxEpoch {
		t.Fatalf("P16.2: epoch %d, want the last", e)
	}
	refuseLine(t, x, "crash 0 0 0", api.ErrEpochs)
	refuse(t, x, api.Entry{Kind: api.ECrash, A: -1, B: -1, C: 300}, api.ErrEpochs)
	refuseLine(t, x, "boot", api.ErrUp)
	refuseLine(t, x, "stumble 0 0 0", api.ErrUp)
	playAll(t, x, "insert 1 0 a\n")
	wantOnce(t, "P16.7: in the last epoch", x)
	refuseLine(t, x, "crash 0 0 0", api.ErrEpochs)
}

// TestLastStumbles: a stumble needs room for its own boot and for a start behind it; what cannot stand does not count.
func TestLastStumbles(t *testing.T) {
	x := epochs(t, 253)
	playLine(t, x, "stumble 10 0 1", 0) // kept, garbled
	playLine(t, x, "stumble 4 0 0", 10) // so this one is of epoch 254 too
	playLine(t, x, "stumble 0 0 0", 4)  // and this
	playLine(t, x, "stumble 10 0 0", 0) // kept whole: epoch 254
	refuseLine(t, x, "stumble 0 0 0", api.ErrEpochs)
	playLine(t, x, "boot", 0)
	if e := x.Report().Server.Epoch; e != api.MaxEpoch {
		t.Fatalf("P16.2: epoch %d, want the last", e)
	}

	// Refused, it cuts nothing off: that is left to the start.
	y := after(t, 1, strings.Repeat("crash 0 0 0\nboot\n", 253)+"insert 1 0 a\n"+join+"tick 1\nall\ncrash 16 0 0\n")
	refuseLine(t, y, "stumble 0 0 0", api.ErrEpochs)
	refuseLine(t, y, "stumble 11 0 0", api.ErrEpochs)
	playLine(t, y, "boot", 16)
	wantOnce(t, "P16.7: in the last epoch", y)
}

// TestAnyNumberOfEntries: a script has a limit, a system has none.
func TestAnyNumberOfEntries(t *testing.T) {
	x := newSystem(t, 1)
	for range 20 * api.MaxEntries {
		x.Do(api.Entry{Kind: api.EAll})
	}
	playLine(t, x, "insert 1 0 a", 0)
	if n := len(x.Report().Steps); n != 20*api.MaxEntries+1 {
		t.Fatalf("P16.2: %d steps", n)
	}
	wantEvents(t, "P16.3", x, 0, "step 20480: site 1 have 0 made 1 i0a(1,1) [a1.1]")
}

// TestEverybodyMakesEverything: 64 clients, 64 edits each; texts stay short, and all come to the same.
func TestEverybodyMakesEverything(t *testing.T) {
	x := newSystem(t, api.MaxClients)
	for n := range api.MaxEdits {
		for id := 1; id <= api.MaxClients; id++ {
			e := api.Entry{Kind: api.EInsert, Site: id, A: 0, Ch: byte('0' + n)}
			if n%2 == 1 {
				e.Kind = api.EDelete
			}
			play(t, x, e, 0)
		}
		if n%16 == 0 {
			playAll(t, x, "round\nall\n")
		}
	}
	refuseLine(t, x, "insert 64 0 a", api.ErrQuota)
	rounds := 0
	for ; rounds < 1100; rounds++ {
		x.Do(api.Entry{Kind: api.ERound})
		x.Do(api.Entry{Kind: api.EAll})
		if v, _ := x.Site(64); v.Have == api.MaxLog {
			break
		}
	}
	playAll(t, x, "round\nall\n")
	r := x.Report()
	if len(r.Log) != api.MaxLog || r.Server.Synced != api.MaxLog || len(r.Disk) != 10+17*api.MaxLog || r.Synced != len(r.Disk) {
		t.Fatalf("P16.4: behind %d rounds: %d records, %d synced, %d bytes", rounds, len(r.Log), r.Server.Synced, len(r.Disk))
	}
	for _, v := range r.Sites {
		if v.Have != api.MaxLog || len(v.Pending) != 0 || !slices.Equal(v.Doc, r.Server.Told) {
			t.Fatalf("P16.7: client %d has %d records, %d pending, %q; the server %q", v.ID, v.Have, len(v.Pending), plain(v.Doc), plain(r.Server.Told))
		}
	}
}

// TestWholeTextsAreNotKept: what each client saw of a long text at each record is told whole, and takes little room until then.
func TestWholeTextsAreNotKept(t *testing.T) {
	const makers, edits = 16, 60
	x := after(t, makers, join)
	var start, end runtime.MemStats
	runtime.GC()
	runtime.ReadMemStats(&start)
	for n := range edits {
		kind := api.EInsert
		if n >= edits/2 {
			kind = api.EDelete
		}
		for id := 1; id <= makers; id++ {
			play(t, x, api.Entry{Kind: kind, Site: id, A: min(n, edits-n) / 3, Ch: 'x'}, 0)
		}
		if n == edits/2 {
			for range 2 * makers * edits / 16 {
				playAll(t, x, "round\nall\n")
			}
		}
	}
	for range 2 * makers * edits / 16 {
		playAll(t, x, "round\nall\n")
	}
	runtime.GC()
	runtime.ReadMemStats(&end)
	r := x.Report()
	total := 0
	for _, e := range r.Events {
		total += len(e.Doc)
	}
	if len(r.Log) != makers*edits || r.Sites[0].Have != makers*edits {
		t.Fatalf("%d records, client 1 has %d", len(r.Log), r.Sites[0].Have)
	}
	if grown := int(end.HeapAlloc) - int(start.HeapAlloc); grown > 6*total { // a character takes 24 bytes
		t.Fatalf("%d bytes are kept for texts of %d characters", grown, total)
	}
}

// lists gives every list of a report, as a pair: one call overwrites it to the end of its room with what that number means, the other tells whether it stands so.
func lists(r *api.Report) (fills []func(n int), holds []func(n int) bool) {
	for i := range r.Events {
		fills, holds = addList(fills, holds, r.Events[i].Doc, elemOf)
	}
	for i := range r.Sites {
		fills, holds = addList(fills, holds, r.Sites[i].Doc, elemOf)
		fills, holds = addList(fills, holds, r.Sites[i].Pending, func(n int) api.Edit { return api.Edit{Tag: n} })
	}
	for i := range r.Flight {
		fills, holds = addList(fills, holds, r.Flight[i].Bytes, func(n int) byte { return byte(n) })
	}
	fills, holds = addList(fills, holds, r.Server.Doc, elemOf)
	fills, holds = addList(fills, holds, r.Server.Told, elemOf)
	fills, holds = addList(fills, holds, r.Server.Links, func(n int) api.LinkView { return api.LinkView{Base: n} })
	fills, holds = addList(fills, holds, r.Log, func(n int) api.Edit { return api.Edit{Tag: n} })
	fills, holds = addList(fills, holds, r.Disk, func(n int) byte { return byte(n) })
	fills, holds = addList(fills, holds, r.Steps, func(n int) api.Step { return api.Step{Count: n} })
	return fills, holds
}

func elemOf(n int) api.Elem { return api.Elem{Client: n} }

func addList[T comparable](fills []func(int), holds []func(int) bool, list []T, value func(int) T) ([]func(int), []func(int) bool) {
	list = list[:cap(list)]
	fill := func(n int) {
		for i := range list {
			list[i] = value(n)
		}
	}
	hold := func(n int) bool {
		return !slices.ContainsFunc(list, func(v T) bool { return v != value(n) })
	}
	return append(fills, fill), append(holds, hold)
}

// TestAnswersAreNew: no list of a report shares memory with another, nor with the system.
func TestAnswersAreNew(t *testing.T) {
	for _, lines := range []string{"round\n", "round\ncrash 0 0 0\n", "round\nall\nround\nflip 2 3 4\ninsert 1 0 q\n"} {
		x := after(t, 3, join+"insert 1 0 a\ninsert 2 0 b\nround\nall\nround\nall\ninsert 3 1 c\ndelete 1 0\nround\nall\ninsert 2 0 d\n"+lines)
		want := word(x.Report()) // in words: nothing that is overwritten below changes these
		wantStill := func(what string) {
			t.Helper()
			if got := word(x.Report()); got != want {
				t.Fatalf("P0.2: behind %s that was overwritten: %s\nwant %s", what, got, want)
			}
		}
		r := x.Report()
		fills, holds := lists(&r)
		if len(fills) < 20 || len(fills) > 250 {
			t.Fatalf("%d lists", len(fills))
		}
		for n, fill := range fills {
			fill(n + 1)
		}
		for n, hold := range holds {
			if !hold(n + 1) {
				t.Fatalf("P0.2: list %d of a report shares memory with another", n)
			}
		}
		clear(r.Events[:cap(r.Events)])
		clear(r.Sites[:cap(r.Sites)])
		clear(r.Flight[:cap(r.Flight)])
		wantStill("a report")
		v, _ := x.Site(1)
		clear(v.Doc[:cap(v.Doc)])
		clear(v.Pending[:cap(v.Pending)])
		wantStill("a view")
	}
}

// TestAnswersStay: what was answered is not changed by what is played later, and appending to it changes nothing either.
func TestAnswersStay(t *testing.T) {
	x := after(t, 2, join+"insert 1 0 a\nround\nall\nround\n")
	r := x.Report()
	want := word(r)
	more := append(r.Steps, api.Step{Kind: 99})
	playAll(t, x, "all\ninsert 2 0 b\ndelete 1 0\nround\nall\nround\nall\ncrash 0 0 0\nboot\n")
	if got := word(r); got != want || more[len(more)-1].Kind != 99 {
		t.Fatalf("P0.2: an old report has become %s\nwant %s", got, want)
	}
	if s := x.Report().Steps[len(r.Steps)]; s.Kind != api.EAll {
		t.Fatalf("P0.2: the step behind a report is %+v", s)
	}
}

// TestNothingIsKept: what is handed in is not changed, and what is written into it later is not seen.
func TestNothingIsKept(t *testing.T) {
	x, y := after(t, 2, join), after(t, 2, join)
	// An early record is held until its turn comes.
	early := forge(t, 1, api.Msg{Kind: api.MRecord, Epoch: 1, Client: 1, Num: 2, Rev: 2, Op: api.Op{Kind: api.Insert, Pos: 1, Ch: 'b', Client: 2, Seq: 2}})
	first := forge(t, 1, api.Msg{Kind: api.MRecord, Epoch: 1, Client: 1, Num: 1, Rev: 1, Op: api.Op{Kind: api.Insert, Pos: 0, Ch: 'a', Client: 2, Seq: 1}})
	for _, e := range []api.Entry{early, first} {
		play(t, y, e, 0)
		given := slices.Clone(e.Bytes)
		e.Bytes = slices.Grow(slices.Clone(e.Bytes), 100)
		play(t, x, e, 0)
		if !slices.Equal(e.Bytes, given) {
			t.Fatalf("P0.2: Do has changed its entry's bytes")
		}
		clear(e.Bytes[:cap(e.Bytes)])
	}
	wantReport(t, "P0.2: forged bytes that were overwritten", x.Report(), y.Report())
	if v, _ := x.Site(1); plain(v.Doc) != "ab" {
		t.Fatalf("client 1 has %q", plain(v.Doc))
	}
}

// aRun gives the entries of a run that does a bit of everything, and its number of clients.
func aRun(t *testing.T, seed int) (int, []api.Entry) {
	t.Helper()
	n := 1 + seed%5
	r, x := dice(700+seed), newSystem(t, n)
	var list []api.Entry
	for range 200 {
		e := next(r, x.Report(), mood{2, 20, 5})
		list = append(list, e)
		x.Do(e)
	}
	return n, list
}

// TestDetermined: the same entries come to the same, under every schedule, beside others, and whether reports are asked between or not.
func TestDetermined(t *testing.T) {
	defer runtime.GOMAXPROCS(runtime.GOMAXPROCS(0))
	for seed := range 6 {
		n, list := aRun(t, seed)
		want := newSystem(t, n)
		for _, e := range list {
			want.Do(e)
			want.Report()
			want.Site(1)
		}
		for _, procs := range []int{1, 2, 8} {
			runtime.GOMAXPROCS(procs)
			got := make([]*system.System, 4)
			var working sync.WaitGroup
			for i := range got {
				got[i] = newSystem(t, n)
				working.Go(func() {
					for _, e := range list {
						got[i].Do(e)
					}
				})
			}
			working.Wait()
			for _, x := range got {
				wantReport(t, "P0.1: the same entries again", x.Report(), want.Report())
			}
		}
	}
}

// TestGoroutinesEnd: none is left behind by a call.
func TestGoroutinesEnd(t *testing.T) {
	before := runtime.NumGoroutine()
	for seed := range 4 {
		n, list := aRun(t, seed)
		x := newSystem(t, n)
		for _, e := range list {
			x.Do(e)
		}
		x.Report()
	}
	system.Run("clients 64\n" + strings.Repeat("round\nall\n", 20))
	system.Run(strings.Repeat("all\n", 3000))
	// One that has told its end may still be counted for a moment, a longer one if the machine is busy.
	for n := 0; runtime.NumGoroutine() > before && n < 5000; n++ {
		time.Sleep(time.Millisecond)
	}
	if n := runtime.NumGoroutine(); n > before {
		t.Fatalf("P0.1: %d goroutines behind the calls, %d before", n, before)
	}
}
