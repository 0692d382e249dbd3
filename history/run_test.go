package history_test

import (
	"math/rand/v2"
	"slices"
	"testing"

	"jotter/api"
	"jotter/client"
	"jotter/disk"
	"jotter/history"
	"jotter/net"
	"jotter/server"
)

// service is a server with honest clients, a disk and a network that does as it likes; all that is shown is noted.
type service struct {
	s       *server.Server
	d       *disk.Disk
	clients []*client.Client
	net     *net.Net
	starts  int
	step    int
	events  []api.Event
}

func newService(t *testing.T, n int) *service {
	t.Helper()
	v := &service{d: disk.New()}
	for id := 1; id <= n; id++ {
		c, _ := client.New(id)
		v.clients = append(v.clients, c)
	}
	v.net, _ = net.New(n)
	v.start(t)
	return v
}

func (v *service) start(t *testing.T) {
	t.Helper()
	s, _ := server.Start(v.d, len(v.clients))
	if s == nil {
		t.Fatalf("no server")
	}
	v.s = s
	v.starts++
	v.showServer()
}

func (v *service) showServer() {
	x := v.s.View()
	v.events = append(v.events, api.Event{Step: v.step, Have: x.Synced, Doc: x.Told})
}

func (v *service) showClient(id int, op api.Op) {
	x := v.clients[id-1].View()
	v.events = append(v.events, api.Event{Step: v.step, Site: id, Have: x.Have, Made: x.Made, Op: op, Doc: x.Doc})
}

// history gives all that was shown, with the log as it is now.
func (v *service) history() api.History {
	return api.History{Clients: len(v.clients), Log: v.s.Edits(), Events: slices.Clone(v.events)}
}

func (v *service) edit(r *rand.Rand, id int) {
	c := v.clients[id-1]
	n := len(c.Doc())
	x, e := api.Edit{}, api.OK
	if n > 0 && r.IntN(3) == 0 {
		x, e = c.Delete(r.IntN(n))
	} else {
		x, e = c.Insert(r.IntN(n+1), 'a'+r.IntN(26))
	}
	if e == api.OK {
		v.showClient(id, x.Op)
	}
}

func (v *service) tick(id int) {
	if id > 0 {
		for _, b := range v.clients[id-1].Tick() {
			v.net.Send(id, 0, b)
		}
		return
	}
	before := v.s.View().Synced
	for _, g := range v.s.Tick() {
		v.net.Send(0, g.To, g.Bytes)
	}
	if v.s.View().Synced > before {
		v.showServer()
	}
}

func (v *service) deliver(i int) {
	g, _ := v.net.Deliver(i)
	if g.To == 0 {
		v.s.Receive(g.Bytes)
		return
	}
	c := v.clients[g.To-1]
	before := c.View().Have
	c.Receive(g.Bytes)
	if c.View().Have > before {
		v.showClient(g.To, api.Op{})
	}
}

// crash lets the server and a part of the disk's tail be gone, and starts anew.
func (v *service) crash(t *testing.T, r *rand.Rand) {
	t.Helper()
	keep := r.IntN(v.d.Size() - v.d.Synced() + 1)
	at, mask := 0, 0
	if keep > 0 && r.IntN(2) == 0 {
		at, mask = r.IntN(keep), 1+r.IntN(255)
	}
	v.d.Crash(keep, at, mask)
	v.start(t)
}

// play lets one thing happen.
func (v *service) play(t *testing.T, r *rand.Rand, loss int) {
	t.Helper()
	v.step++
	switch k := r.IntN(100); {
	case k < 8:
		v.edit(r, 1+r.IntN(len(v.clients)))
	case k < 30:
		v.tick(1 + r.IntN(len(v.clients)))
	case k < 38:
		v.tick(0)
	case k < 39 && r.IntN(5) == 0:
		v.crash(t, r)
	case v.net.Count() > 0:
		v.bring(r, loss)
	}
}

// bring does with one datagram in flight what a network may do.
func (v *service) bring(r *rand.Rand, loss int) {
	i := r.IntN(v.net.Count())
	switch k := r.IntN(100); {
	case k < loss:
		v.net.Drop(i)
	case k < 2*loss:
		v.net.Double(i)
	case k < 3*loss:
		v.net.Flip(i, r.IntN(len(v.net.Flight()[i].Bytes)), 1+r.IntN(255))
	default:
		v.deliver(i)
	}
}

// TestRuns: whatever the network does, and however often the server crashes: what honest clients show holds, and so does each of its beginnings, with the log as it was then.
func TestRuns(t *testing.T) {
	events, records, crashes := 0, 0, 0
	for seed := range 60 {
		r := dice(seed + 200000)
		v := newService(t, 1+seed%6)
		loss := []int{0, 5, 15, 30}[seed%4]
		for n := range 1500 {
			if v.play(t, r, loss); n%100 == 99 {
				wantVerdict(t, "an honest run", v.history(), 0, 0, 0)
			}
		}
		wantOwnPaths(t, v)
		events += len(v.events)
		records += len(v.s.Edits())
		crashes += v.starts - 1
	}
	if events < 8000 || records < 1200 || crashes < 150 {
		t.Fatalf("the runs tell too little: %d events, %d records, %d crashes", events, records, crashes)
	}
}

// wantOwnPaths ends the test unless each client stands on its path as it is now.
func wantOwnPaths(t *testing.T, v *service) {
	t.Helper()
	for _, c := range v.clients {
		now := c.View()
		path, err := history.Path(v.history(), now.ID)
		found := slices.ContainsFunc(path, func(x api.View) bool {
			return sameView(x, api.View{Have: now.Have, Made: now.Made, Doc: now.Doc})
		})
		if err != nil || !found {
			t.Fatalf("P14.3: client %d, with %d records and %d edits, is not on its path: %v", now.ID, now.Have, now.Made, err)
		}
	}
}

// TestBentRuns: of what honest clients showed one text is changed.
func TestBentRuns(t *testing.T) {
	counts := tally{}
	for seed := range 200 {
		r := dice(seed + 300000)
		v := newService(t, 2+seed%3)
		for range 300 {
			v.play(t, r, 5)
		}
		h := v.history()
		i := len(h.Events)/2 + r.IntN(len(h.Events)/2)
		h.Events[i].Doc = spoiltText(r, h.Events[i].Doc)
		if err := (model{h}).check(); err != nil {
			wantRefused(t, "bent", h, api.Place(err), api.Code(err))
			continue
		}
		want := model{h}.judge()
		wantVerdict(t, "bent", h, want.Rule, want.Event, want.Other)
		counts.add(want, nil)
	}
	counts.wantEnough(t, 3, "rule 1", "rule 2", "rule 3", "rule 4")
}
