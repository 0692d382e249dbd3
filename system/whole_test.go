package system_test

import (
	"fmt"
	"slices"
	"testing"

	"jotter/api"
	"jotter/history"
	"jotter/system"
	"jotter/wire"
)

// watch plays a run without forged bytes, and holds each step against the promises of the whole.
type watch struct {
	x    *system.System
	now  api.Report
	told []api.Edit     // every later log must begin with these
	acks map[int]int    // by client: up to this Seq the server has acknowledged its edits
	from map[[2]int]int // by epoch and client: the Seq of the session's first edit
	// As it was ahead of the last crash.
	log    []api.Edit
	synced int
}

func newWatch(t *testing.T, clients int) *watch {
	t.Helper()
	x := newSystem(t, clients)
	return &watch{x: x, now: x.Report(), acks: map[int]int{}, from: map[[2]int]int{}}
}

func (w *watch) do(t *testing.T, e api.Entry) {
	t.Helper()
	before := w.now
	step := w.x.Do(e)
	w.now = w.x.Report()
	what := fmt.Sprintf("step %d: %s", len(before.Steps), entryWord(e))
	w.wantSteps(t, what, before, step)
	if step.Err != api.OK {
		w.wantRefused(t, what, before, e, step)
	}
	w.wantEvents(t, what, before)
	w.wantDisk(t, what)
	w.wantEqual(t, what)
	w.wantKept(t, what)
	if step.Err == api.OK {
		w.wantRecovery(t, what, before, e)
	}
}

func (w *watch) wantSteps(t *testing.T, what string, before api.Report, step api.Step) {
	t.Helper()
	if !slices.Equal(w.now.Steps, append(before.Steps, step)) {
		t.Fatalf("%s: P16.2: steps %+v", what, w.now.Steps)
	}
	if step.Err != api.OK && step.Count != 0 && (step.Kind != api.EDeliver || step.Count != 1) {
		t.Fatalf("%s: P16.2: a count with an error", what)
	}
}

// wantRefused ends the test if a refused step has changed anything but the steps, and what a delivery took out of flight.
func (w *watch) wantRefused(t *testing.T, what string, before api.Report, e api.Entry, step api.Step) {
	t.Helper()
	before.Steps = w.now.Steps
	if step.Kind == api.EDeliver && step.Count == 1 {
		before.Flight = slices.Delete(slices.Clone(before.Flight), e.A, e.A+1)
	}
	wantReport(t, "P16.12: "+what, w.now, before)
}

// wantEvents ends the test unless the earlier events stand as they were, and the new ones are of this step.
func (w *watch) wantEvents(t *testing.T, what string, before api.Report) {
	t.Helper()
	old := len(before.Events)
	if len(w.now.Events) < old || !sameEvents(w.now.Events[:old], before.Events) {
		t.Fatalf("%s: P16.3: an earlier event has changed", what)
	}
	for _, e := range w.now.Events[old:] {
		if e.Step != len(before.Steps) {
			t.Fatalf("%s: P16.3: %s", what, eventWord(e))
		}
	}
}

// wantDisk ends the test unless the disk holds just what the report says of it.
func (w *watch) wantDisk(t *testing.T, what string) {
	t.Helper()
	list, whole := items(w.now.Disk)
	for i, epoch := range boots(list) {
		if epoch != i+1 {
			t.Fatalf("%s: P16.4: the boots on the disk are %v", what, boots(list))
		}
	}
	if !slices.Equal(edits(list), w.now.Log) || w.now.Synced > len(w.now.Disk) {
		t.Fatalf("%s: P16.4: on the disk %s, in the log %s", what, logWord(edits(list)), logWord(w.now.Log))
	}
	v := w.now.Server
	if !v.Up {
		if !sameServer(v, api.ServerView{}) || w.now.Synced != len(w.now.Disk) {
			t.Fatalf("%s: P16.4: down: %s; %d bytes, %d synced", what, word(v), len(w.now.Disk), w.now.Synced)
		}
		return
	}
	firm, whole2 := items(w.now.Disk[:w.now.Synced])
	if !whole || !whole2 || len(boots(list)) != v.Epoch || len(boots(firm)) != v.Epoch || v.Revs != len(w.now.Log) || v.Synced != len(edits(firm)) {
		t.Fatalf("%s: P16.4: whole %v and %v, boots %v, %d records synced; %s", what, whole, whole2, boots(list), len(edits(firm)), word(v))
	}
}

// applied names the set of edits that the first records of a log are, together with a client's own up to that Seq: how many there are of each client.
func (w *watch) applied(records, client, made int) [api.MaxClients + 1]int {
	var set [api.MaxClients + 1]int
	for _, e := range w.now.Log[:records] {
		set[e.Op.Client]++
	}
	set[client] = max(set[client], made)
	return set
}

// wantEqual ends the test if two who have the same edits hold unlike texts.
func (w *watch) wantEqual(t *testing.T, what string) {
	t.Helper()
	texts := map[[api.MaxClients + 1]int]string{}
	hold := func(who string, set [api.MaxClients + 1]int, text []api.Elem) {
		t.Helper()
		got := textWord(text)
		if other, there := texts[set]; there && other != got {
			t.Fatalf("%s: P16.9: %s holds %s, another with the same edits %s", what, who, got, other)
		}
		texts[set] = got
	}
	if v := w.now.Server; v.Up {
		hold("the server", w.applied(v.Revs, 0, 0), v.Doc)
		hold("the server's synced text", w.applied(v.Synced, 0, 0), v.Told)
	}
	for _, v := range w.now.Sites {
		if v.Have > len(w.now.Log) {
			t.Fatalf("%s: P16.10: client %d has %d records, the log %s", what, v.ID, v.Have, logWord(w.now.Log))
		}
		hold(fmt.Sprint("client ", v.ID), w.applied(v.Have, v.ID, v.Made), v.Doc)
		if len(v.Pending) == 0 && textWord(v.Doc) != textWord(textOf(t, w.now.Log[:v.Have])) {
			t.Fatalf("%s: P16.9: client %d, with nothing pending, holds %s", what, v.ID, textWord(v.Doc))
		}
	}
}

// wantKept ends the test unless the log holds all that was told, and notes what is told now.
func (w *watch) wantKept(t *testing.T, what string) {
	t.Helper()
	last := map[int]int{}
	for _, e := range w.now.Log {
		if last[e.Op.Client]++; last[e.Op.Client] != e.Op.Seq {
			t.Fatalf("%s: P16.10: Seqs in the log: %s", what, logWord(w.now.Log))
		}
	}
	if !isBeginning(w.told, w.now.Log) {
		t.Fatalf("%s: P16.10: told was %s, the log is %s", what, logWord(w.told), logWord(w.now.Log))
	}
	for client, seq := range w.acks {
		if last[client] < seq {
			t.Fatalf("%s: P16.10: client %d's edits were acknowledged up to %d; the log is %s", what, client, seq, logWord(w.now.Log))
		}
	}
	w.note(t, what)
}

// note notes what was told: synced, taken in, named by a Record in flight or acknowledged by what is in flight.
func (w *watch) note(t *testing.T, what string) {
	t.Helper()
	known := max(len(w.told), w.now.Server.Synced)
	for _, v := range w.now.Sites {
		known = max(known, v.Have)
	}
	for i, l := range w.now.Server.Links {
		if l.Open {
			w.from[[2]int{w.now.Server.Epoch, i + 1}] = l.From
		}
	}
	for _, g := range w.now.Flight {
		m, err := wire.Decode(g.Bytes)
		if g.Spoilt != (err != nil) {
			t.Fatalf("%s: P16.12: %+v: %v", what, g, err)
		}
		if g.From != 0 || g.Spoilt || m.Kind == api.MInvite {
			continue
		}
		known = max(known, m.Rev)
		w.acks[m.Client] = max(w.acks[m.Client], w.from[[2]int{m.Epoch, m.Client}]+m.Ack-1)
	}
	if known > len(w.now.Log) {
		t.Fatalf("%s: P16.10: %d records were told, the log is %s", what, known, logWord(w.now.Log))
	}
	w.told = w.now.Log[:known]
}

// wantRecovery looks at a crash and at a start behind it, with stumbles between them or none.
func (w *watch) wantRecovery(t *testing.T, what string, before api.Report, e api.Entry) {
	t.Helper()
	switch e.Kind {
	case api.ECrash:
		w.log, w.synced = before.Log, before.Server.Synced
	case api.EBoot:
		v := w.now.Server
		list, _ := items(before.Disk)
		text := textWord(textOf(t, w.now.Log))
		if !isBeginning(w.now.Log, w.log) || len(w.now.Log) < w.synced || !slices.Equal(w.now.Log, before.Log) {
			t.Fatalf("%s: P16.11: the log was %s, %d synced; it is %s", what, logWord(w.log), w.synced, logWord(w.now.Log))
		}
		if v.Revs != len(w.now.Log) || v.Synced != v.Revs || textWord(v.Doc) != text || textWord(v.Told) != text || v.Epoch != len(boots(list))+1 {
			t.Fatalf("%s: P16.11: the log is %s, behind boots %v: %s", what, logWord(w.now.Log), boots(list), word(v))
		}
	}
}

// wantJudged ends the test unless the weak list specification holds of the run.
func (w *watch) wantJudged(t *testing.T) {
	t.Helper()
	v, err := history.Judge(api.History{Clients: w.now.Clients, Log: w.now.Log, Events: w.now.Events})
	if err != nil || v != (api.Verdict{}) {
		t.Fatalf("P16.8: %+v, %v; log %s", v, err, logWord(w.now.Log))
	}
}

// TestPromisesOfTheWhole: at each step of honest runs of all moods.
func TestPromisesOfTheWhole(t *testing.T) {
	kept, lost := 0, 0
	for seed := range 150 {
		r, w := dice(300+seed), newWatch(t, []int{1, 2, 3, 4, 6}[seed%5])
		how := []mood{{0, 0, 0}, {2, 10, 0}, {5, 20, 0}, {1, 50, 0}, {3, 70, 0}, {8, 5, 0}}[seed%6]
		for i := range 250 {
			before := len(w.now.Log)
			w.do(t, next(r, w.now, how))
			lost += max(0, before-len(w.now.Log))
			if i%60 == 59 {
				w.wantJudged(t)
			}
		}
		w.wantJudged(t)
		kept += len(w.now.Log)
	}
	if kept < 1500 || lost < 60 {
		t.Fatalf("the runs tell too little: %d records, %d lost by crashes", kept, lost)
	}
}

// TestRefusedStepsLeaveNoTrace: a run without the steps that were refused comes to the same, and goes on the same; a delivery that was refused is a loss.
func TestRefusedStepsLeaveNoTrace(t *testing.T) {
	for seed := range 40 {
		n := 1 + seed%4
		r, x, y := dice(400+seed), newSystem(t, n), newSystem(t, n)
		how := []mood{{3, 40, 0}, {2, 20, 30}, {0, 60, 60}, {6, 10, 10}}[seed%4]
		var places []int // of x's steps in y's list
		for range 300 {
			e := next(r, x.Report(), how)
			places = append(places, len(y.Report().Steps))
			step := x.Do(e)
			switch {
			case step.Err == api.OK:
				if s := y.Do(e); s != step {
					t.Fatalf("P16.12: %s: %+v, without the refused ones %+v", entryWord(e), step, s)
				}
			case step.Count == 1:
				play(t, y, api.Entry{Kind: api.EDrop, A: e.A}, 1)
			}
		}
		alike := func(what string) {
			t.Helper()
			got, want := x.Report(), y.Report()
			for i := range got.Events {
				got.Events[i].Step = places[got.Events[i].Step]
			}
			got.Steps, want.Steps = nil, nil
			wantReport(t, "P16.12: "+what, got, want)
		}
		alike("without the refused steps")
		for range 12 {
			for _, kind := range []int{api.EBoot, api.ERound, api.EAll} {
				places = append(places, len(y.Report().Steps))
				if x.Do(api.Entry{Kind: kind}).Err == api.OK {
					y.Do(api.Entry{Kind: kind})
				}
			}
			alike("going on")
		}
	}
}

// TestFlippedAreRefused: whenever a flipped datagram comes, to whomever.
func TestFlippedAreRefused(t *testing.T) {
	flipped := 0
	for seed := range 30 {
		r, x := dice(500+seed), newSystem(t, 1+seed%4)
		for range 300 {
			now := x.Report()
			i := slices.IndexFunc(now.Flight, func(g api.Datagram) bool { return g.Spoilt })
			if i < 0 || r.IntN(3) > 0 {
				x.Do(next(r, now, mood{1, 70, 0}))
				continue
			}
			flipped++
			to := now.Flight[i].To
			want := api.ErrDatagram
			if to == 0 && !now.Server.Up {
				want = api.ErrDown // there is nobody to look at it
			}
			refuseGone(t, x, i, want)
		}
	}
	if flipped < 300 {
		t.Fatalf("%d flipped ones came", flipped)
	}
}
