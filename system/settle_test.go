package system_test

import (
	"math/rand/v2"
	"strings"
	"testing"

	"jotter/api"
	"jotter/history"
	"jotter/system"
)

// fairBlock plays b rounds of which the last comes through. What happens in the others is harm's choice: it gives an entry for a flight of so many, or false, if it lets them be. It is given how many are in flight, and gives how many are behind it.
func fairBlock(t *testing.T, x *system.System, b int, harm func(flying int) (api.Entry, bool), flying int) int {
	t.Helper()
	for range b - 1 {
		flying += x.Do(api.Entry{Kind: api.ERound}).Count
		for {
			e, more := harm(flying)
			if !more {
				break
			}
			switch s := x.Do(e); s.Kind {
			case api.EDeliver, api.EDrop:
				flying -= s.Count
			case api.EDouble:
				flying += s.Count
			}
		}
	}
	play(t, x, api.Entry{Kind: api.EAll}, flying)
	flying = x.Do(api.Entry{Kind: api.ERound}).Count
	play(t, x, api.Entry{Kind: api.EAll}, flying)
	return 0
}

// settle plays the fair blocks that settle a service by P16.7, and looks whether they did.
func settle(t *testing.T, what string, x *system.System, b int, harm func(flying int) (api.Entry, bool)) api.Report {
	t.Helper()
	if !x.Report().Server.Up {
		playAll(t, x, "boot\n")
	}
	now := x.Report()
	lag, pending := 0, 0
	for _, v := range now.Sites {
		lag = max(lag, len(now.Log)-v.Have)
		pending += len(v.Pending)
	}
	rounds, e := system.Bound(b, lag, pending)
	if e != api.OK || rounds%b != 0 {
		t.Fatalf("P16.6: Bound(%d, %d, %d) = %d, %d", b, lag, pending, rounds, e)
	}
	flying := len(now.Flight)
	for range rounds / b {
		flying = fairBlock(t, x, b, harm, flying)
	}
	r := x.Report()
	wantSettled(t, what, r)
	return r
}

func wantSettled(t *testing.T, what string, r api.Report) {
	t.Helper()
	made := map[[2]int]api.Edit{}
	for _, e := range r.Events {
		if e.Op != (api.Op{}) {
			made[[2]int{e.Op.Client, e.Op.Seq}] = api.Edit{Tag: e.Have, Op: e.Op}
		}
	}
	for _, e := range r.Log {
		if made[[2]int{e.Op.Client, e.Op.Seq}] != e {
			t.Fatalf("P16.7: %s: in the log stands %d:%s, twice or as nobody made it", what, e.Tag, opWord(e.Op))
		}
		delete(made, [2]int{e.Op.Client, e.Op.Seq})
	}
	if len(made) > 0 || len(r.Flight) > 0 {
		t.Fatalf("P16.7: %s: %d edits are not in the log, %d datagrams in flight", what, len(made), len(r.Flight))
	}
	text := textWord(textOf(t, r.Log))
	if v := r.Server; !v.Up || v.Revs != len(r.Log) || v.Synced != v.Revs || textWord(v.Doc) != text || textWord(v.Told) != text {
		t.Fatalf("P16.7: %s: the server: %s, want %s", what, brief(word(v)), brief(text))
	}
	for i, v := range r.Sites {
		if len(v.Pending) > 0 || v.Have != len(r.Log) || textWord(v.Doc) != text {
			t.Fatalf("P16.7: %s: client %d has %d of %d records, %d pending, and %s, want %s", what, v.ID, v.Have, len(r.Log), len(v.Pending), brief(textWord(v.Doc)), brief(text))
		}
		if l := r.Server.Links[i]; !l.Open || l.Sent != l.Got {
			t.Fatalf("P16.7: %s: the link of client %d: %+v", what, v.ID, l)
		}
	}
	if v, err := history.Judge(api.History{Clients: r.Clients, Log: r.Log, Events: r.Events}); err != nil || v != (api.Verdict{}) {
		t.Fatalf("P16.8: %s: %+v, %v", what, v, err)
	}
}

// lets is a network that does nothing to what is in flight.
func lets(int) (api.Entry, bool) { return api.Entry{}, false }

// loses is one that loses all.
func loses(flying int) (api.Entry, bool) { return api.Entry{Kind: api.EDrop}, flying > 0 }

// turns is one that delivers all, the newest first.
func turns(flying int) (api.Entry, bool) {
	return api.Entry{Kind: api.EDeliver, A: flying - 1}, flying > 0
}

// mixes is one that does whatever it likes, for a while.
func mixes(r *rand.Rand) func(int) (api.Entry, bool) {
	return func(flying int) (api.Entry, bool) {
		return nextFlight(r, flying, 60), r.IntN(2*flying+4) > 0
	}
}

// TestSettling: behind any run a fair suffix lets all come everywhere, within the bound.
func TestSettling(t *testing.T) {
	for seed := range 120 {
		r := dice(600 + seed)
		x := newSystem(t, []int{1, 2, 3, 5, 9}[seed%5])
		how := []mood{{0, 0, 0}, {2, 20, 0}, {6, 50, 0}, {1, 90, 0}}[seed%4]
		for range 50 + r.IntN(300) {
			x.Do(next(r, x.Report(), how))
		}
		harm := []func(int) (api.Entry, bool){lets, loses, turns, mixes(r)}[seed/2%4]
		settle(t, "a run", x, 1+r.IntN(4), harm)
	}
}

// TestSettlingOfWhatWaits: clients that make all their edits ahead of any round, or while the server is down, or apart from one another.
func TestSettlingOfWhatWaits(t *testing.T) {
	for _, c := range []struct {
		name            string
		clients, edits  int
		ahead, inTheEnd string
	}{
		{"one, of everything", 1, 64, "", ""},
		{"eight, none has joined", 8, 20, "", ""},
		{"64, one each", 64, 1, "", ""},
		{"five that have joined", 5, 30, join, ""},
		{"five whose server is down", 5, 30, join + "crash 0 0 0\n", ""},
		{"five whose server goes down, with all that was sent in flight", 5, 30, join, "round\nround\ncrash 0 0 0\n"},
		{"three whose server goes down, all logged, nothing synced", 3, 25, join, "round\nall\ncrash 0 0 0\n"},
		{"three whose server goes down, all logged, a part of it left", 3, 25, join, "round\nall\ncrash 100 99 1\n"},
		{"three whose server stumbles", 3, 25, join, "round\nall\ncrash 200 0 0\nstumble 10 0 0\nstumble 7 0 0\n"},
		{"three that hear nothing", 3, 25, join, strings.Repeat("tick 1\ntick 2\ntick 3\nall\ntick 0\n"+strings.Repeat("drop 0\n", 3), 3)},
	} {
		for b, harm := range []func(int) (api.Entry, bool){lets, loses, turns, mixes(dice(c.edits))} {
			x := after(t, c.clients, c.ahead)
			for i := range c.edits {
				for id := 1; id <= c.clients; id++ {
					play(t, x, api.Entry{Kind: api.EInsert, Site: id, A: i / 2, Ch: byte('a' + id%26)}, 0)
				}
			}
			playAll(t, x, c.inTheEnd)
			r := settle(t, c.name, x, 1+b, harm)
			if len(r.Log) != c.clients*c.edits {
				t.Fatalf("P16.7: %s: %d records, want %d", c.name, len(r.Log), c.clients*c.edits)
			}
		}
	}
}

// TestSettlingOfOneWhoComesLate: a client that heard nothing of a long log.
func TestSettlingOfOneWhoComesLate(t *testing.T) {
	x := newSystem(t, 4)
	deaf := func(lines string) {
		t.Helper()
		for range 20 {
			playAll(t, x, lines)
			for {
				now := x.Report()
				if len(now.Flight) == 0 {
					break
				}
				kind := api.EDeliver
				if g := now.Flight[0]; g.To == 4 || g.From == 4 {
					kind = api.EDrop
				}
				x.Do(api.Entry{Kind: kind})
			}
		}
	}
	for i := range 60 {
		for id := 1; id <= 3; id++ {
			play(t, x, api.Entry{Kind: api.EInsert, Site: id, A: i, Ch: 'x'}, 0)
		}
		if i%15 == 14 {
			deaf("round\n")
		}
	}
	playAll(t, x, strings.Repeat("insert 4 0 y\n", 30))
	if now := x.Report(); len(now.Log) != 180 || now.Sites[3].Have != 0 || len(now.Sites[3].Pending) != 30 || now.Sites[3].Epoch != 0 {
		t.Fatalf("%d records, client 4: %+v", len(now.Log), now.Sites[3])
	}
	settle(t, "one who comes late", x, 2, loses)
}
