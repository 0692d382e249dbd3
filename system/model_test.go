package system_test

import (
	"slices"
	"testing"

	"jotter/api"
	"jotter/book"
	"jotter/client"
	"jotter/disk"
	"jotter/net"
	"jotter/server"
)

// model is a system as the chapter's table reads, entry by entry, over the same layers.
type model struct {
	clients map[int]*client.Client
	n       int
	s       *server.Server
	d       *disk.Disk
	net     *net.Net
	steps   []api.Step
	events  []api.Event
}

func newModel(n int) *model {
	m := &model{clients: map[int]*client.Client{}, n: n, d: disk.New()}
	for id := 1; id <= n; id++ {
		m.clients[id], _ = client.New(id)
	}
	m.net, _ = net.New(n)
	m.s, _ = server.Start(m.d, n)
	return m
}

func (m *model) do(e api.Entry) api.Step {
	step := api.Step{Kind: e.Kind}
	if step.Err = e.Err; e.Err == api.OK {
		step.Err, step.Count = m.play(e)
	}
	m.steps = append(m.steps, step)
	return step
}

func (m *model) play(e api.Entry) (api.Errno, int) {
	c := m.clients[e.Site]
	switch e.Kind {
	case api.EInsert, api.EDelete:
		if c == nil {
			return api.ErrSite, 0
		}
		edit, bad := api.Edit{}, api.OK
		if e.Kind == api.EInsert {
			edit, bad = c.Insert(e.A, int(e.Ch))
		} else {
			edit, bad = c.Delete(e.A)
		}
		if bad == api.OK {
			m.show(e.Site, edit.Op)
		}
		return bad, 0
	case api.ETick, api.EForge:
		switch {
		case e.Site < 0 || e.Site > m.n:
			return api.ErrSite, 0
		case e.Site == 0 && m.s == nil:
			return api.ErrDown, 0
		case e.Kind == api.EForge:
			return m.hand(e.Site, e.Bytes), 0
		}
		return api.OK, m.tick(e.Site)
	case api.EDeliver:
		return m.deliver(e.A)
	case api.EDrop:
		return counted(m.net.Drop(e.A))
	case api.EDouble:
		return counted(m.net.Double(e.A))
	case api.EFlip:
		return counted(m.net.Flip(e.A, e.B, e.C))
	case api.EAll:
		n := m.net.Count()
		for range n {
			m.deliver(0)
		}
		return api.OK, n
	case api.ERound:
		n := 0
		for id := 1; id <= m.n; id++ {
			n += m.tick(id)
		}
		if m.s != nil {
			n += m.tick(0)
		}
		return api.OK, n
	case api.ECrash, api.EBoot, api.EStumble:
		return m.playServer(e)
	}
	return api.ErrVerb, 0
}

func counted(bad api.Errno) (api.Errno, int) {
	if bad == api.OK {
		return bad, 1
	}
	return bad, 0
}

func (m *model) playServer(e api.Entry) (api.Errno, int) {
	size := m.d.Size()
	switch {
	case e.Kind == api.ECrash && m.s == nil:
		return api.ErrDown, 0
	case e.Kind != api.ECrash && m.s != nil:
		return api.ErrUp, 0
	case e.Kind == api.ECrash:
		if m.s.View().Epoch == api.MaxEpoch {
			return api.ErrEpochs, 0
		}
		if bad := m.d.Crash(e.A, e.B, e.C); bad != api.OK {
			return bad, 0
		}
		m.s = nil
		return api.OK, size - m.d.Size()
	case e.Kind == api.EBoot:
		m.s, _ = server.Start(m.d, m.n)
		v := m.s.View()
		m.events = append(m.events, api.Event{Step: len(m.steps), Have: v.Revs, Doc: v.Doc})
		return api.OK, size + 10 - m.d.Size()
	}
	// Would it be refused? Tried on another disk; then done on this one.
	other, _ := disk.From(m.d.Bytes())
	b, _ := book.Open(other)
	cut := size - other.Size()
	epoch, _ := b.Boot()
	if epoch == 0 || epoch > api.MaxEpoch-1 {
		return api.ErrEpochs, 0
	}
	if bad := other.Crash(e.A, e.B, e.C); bad != api.OK {
		return bad, 0
	}
	b, _ = book.Open(m.d)
	b.Boot()
	m.d.Crash(e.A, e.B, e.C)
	return api.OK, cut
}

func (m *model) tick(id int) int {
	before := m.net.Count()
	if id > 0 {
		for _, b := range m.clients[id].Tick() {
			m.net.Send(id, 0, b)
		}
		return m.net.Count() - before
	}
	synced := m.s.View().Synced
	for _, g := range m.s.Tick() {
		m.net.Send(0, g.To, g.Bytes)
	}
	if v := m.s.View(); v.Synced > synced {
		m.events = append(m.events, api.Event{Step: len(m.steps), Have: v.Synced, Doc: v.Told})
	}
	return m.net.Count() - before
}

func (m *model) deliver(i int) (api.Errno, int) {
	g, bad := m.net.Deliver(i)
	if bad != api.OK {
		return bad, 0
	}
	if g.To == 0 && m.s == nil {
		return api.ErrDown, 1
	}
	return m.hand(g.To, g.Bytes), 1
}

func (m *model) hand(id int, b []byte) api.Errno {
	if id == 0 {
		return api.Code(m.s.Receive(b))
	}
	before := m.clients[id].View().Have
	err := m.clients[id].Receive(b)
	if m.clients[id].View().Have > before {
		m.show(id, api.Op{})
	}
	return api.Code(err)
}

func (m *model) show(id int, op api.Op) {
	v := m.clients[id].View()
	m.events = append(m.events, api.Event{Step: len(m.steps), Site: id, Have: v.Have, Made: v.Made, Op: op, Doc: v.Doc})
}

func (m *model) report() api.Report {
	r := api.Report{Clients: m.n, Steps: slices.Clone(m.steps), Events: m.events, Disk: m.d.Bytes(), Synced: m.d.Synced(), Flight: m.net.Flight()}
	for id := 1; id <= m.n; id++ {
		r.Sites = append(r.Sites, m.clients[id].View())
	}
	if m.s != nil {
		r.Server, r.Log = m.s.View(), m.s.Edits()
		return r
	}
	other, _ := disk.From(m.d.Bytes())
	b, _ := book.Open(other)
	r.Log = b.Edits()
	return r
}

// TestBesideTheModel: the same steps, and at each of them the same report.
func TestBesideTheModel(t *testing.T) {
	for seed := range 48 {
		n := []int{1, 2, 3, 5}[seed%4]
		r, x, m := dice(100+seed), newSystem(t, n), newModel(n)
		how := []mood{{}, {2, 10, 0}, {4, 40, 0}, {1, 10, 10}, {5, 30, 40}, {0, 70, 0}}[seed%6]
		for i := range 250 {
			e := next(r, m.report(), how)
			got, want := x.Do(e), m.do(e)
			if got != want {
				t.Fatalf("P16.2: seed %d, step %d: %s: %+v, want %+v", seed, i, entryWord(e), got, want)
			}
			if i%3 == 0 || i > 240 {
				wantReport(t, "P16.3, P16.4: behind "+entryWord(e), x.Report(), m.report())
			}
		}
	}
}

// TestWildEntries: of any kinds and numbers whatever.
func TestWildEntries(t *testing.T) {
	for seed := range 20 {
		n := 1 + seed%3
		r, x, m := dice(200+seed), newSystem(t, n), newModel(n)
		wild := func() int { return pick(r, 0, 0, 1, 2, 3, 10, 17, 64, 255, -1, r.IntN(4097), pick(r, far...)) }
		for range 1500 {
			e := api.Entry{Kind: r.IntN(16) - 1, Site: wild(), A: wild(), B: wild(), C: wild(), Ch: byte(r.IntN(256)), Bytes: make([]byte, r.IntN(70))}
			if got, want := x.Do(e), m.do(e); got != want {
				t.Fatalf("P16.2: seed %d: %s: %+v, want %+v", seed, entryWord(e), got, want)
			}
		}
		wantReport(t, "P16.4: behind wild entries", x.Report(), m.report())
	}
}
