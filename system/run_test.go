package system_test

import (
	"bytes"
	"math/rand/v2"
	"testing"

	"jotter/api"
	"jotter/wire"
)

// mood is how a run goes: how often, of a hundred entries, the server goes down, how often of a hundred the network does harm, how often bytes are forged.
type mood struct{ crash, harm, forge int }

// next gives an entry that fits how things stand, or nearly.
func next(r *rand.Rand, now api.Report, m mood) api.Entry {
	site := 1 + r.IntN(now.Clients)
	switch k := r.IntN(100); {
	case k < m.forge:
		return api.Entry{Kind: api.EForge, Site: r.IntN(now.Clients + 1), Bytes: forged(r, now)}
	case !now.Server.Up && r.IntN(4) == 0:
		return pick(r, api.Entry{Kind: api.EBoot}, kept(r, api.EStumble, 10), kept(r, api.EStumble, 0))
	case k < m.forge+m.crash:
		return kept(r, api.ECrash, len(now.Disk)-now.Synced)
	case k < 30:
		return nextEdit(r, site, len(now.Sites[site-1].Doc))
	case k < 45:
		return api.Entry{Kind: api.ETick, Site: pick(r, site, site, 0)}
	case k < 55:
		return api.Entry{Kind: api.ERound}
	case k < 63:
		return api.Entry{Kind: api.EAll}
	case k < 66: // what cannot be
		return api.Entry{Kind: r.IntN(16) - 1, Site: r.IntN(now.Clients+4) - 2, A: r.IntN(9) - 4, B: r.IntN(9) - 4, C: r.IntN(300) - 20, Ch: byte(r.IntN(256)), Err: pick(r, api.OK, api.OK, api.ErrForm)}
	}
	return nextFlight(r, len(now.Flight), m.harm)
}

func nextEdit(r *rand.Rand, site, length int) api.Entry {
	beyond := 0
	if r.IntN(20) == 0 {
		beyond = 2
	}
	if r.IntN(5) < 2 {
		return api.Entry{Kind: api.EDelete, Site: site, A: r.IntN(length + 1 + beyond)}
	}
	return api.Entry{Kind: api.EInsert, Site: site, A: r.IntN(length + 1 + beyond), Ch: byte('a' + r.IntN(26))}
}

// nextFlight does something to a datagram: mostly to one of the oldest.
func nextFlight(r *rand.Rand, flying, harm int) api.Entry {
	i := r.IntN(flying + 1)
	if r.IntN(3) > 0 {
		i = r.IntN(min(flying, 5) + 1)
	}
	if r.IntN(100) >= harm {
		return api.Entry{Kind: api.EDeliver, A: i}
	}
	return api.Entry{Kind: pick(r, api.EDrop, api.EDouble, api.EFlip), A: i, B: r.IntN(20), C: 1 + r.IntN(255)}
}

// kept gives a crash or a stumble that keeps some of a tail.
func kept(r *rand.Rand, kind, tail int) api.Entry {
	e := api.Entry{Kind: kind, A: r.IntN(tail + 1)}
	switch r.IntN(10) {
	case 0:
		e.A = tail + 1
	case 1, 2, 3:
		e.A = tail
	}
	if r.IntN(2) == 0 {
		e.B, e.C = r.IntN(e.A+1), r.IntN(257)
	}
	return e
}

// forged gives bytes that nobody sent: noise, another's, old ones, or a message that lies.
func forged(r *rand.Rand, now api.Report) []byte {
	switch k := r.IntN(8); {
	case k == 0:
		b := make([]byte, r.IntN(70))
		for i := range b {
			b[i] = byte(r.IntN(256))
		}
		return b
	case k < 3 && len(now.Flight) > 0:
		return bytes.Clone(now.Flight[r.IntN(len(now.Flight))].Bytes)
	}
	for {
		if b, err := wire.Encode(lie(r, now)); err == nil {
			return b
		}
	}
}

// lie gives a message with numbers near to those that count now.
func lie(r *rand.Rand, now api.Report) api.Msg {
	near := func(n int) int { return n + pick(r, 0, 0, 0, 1, 1, -1, 2, 5) }
	who := 1 + r.IntN(now.Clients)
	v := now.Sites[who-1]
	m := api.Msg{Kind: 1 + r.IntN(6), Epoch: near(max(now.Server.Epoch, v.Epoch)), Client: who}
	op := api.Op{Kind: r.IntN(3), Client: pick(r, who, 1+r.IntN(now.Clients), 64), Seq: near(v.Made)}
	if op.Kind != api.Nop {
		op.Pos = r.IntN(len(v.Doc) + 1)
	}
	if op.Kind == api.Insert {
		op.Ch = 'Z'
	}
	link := api.LinkView{}
	if now.Server.Up {
		link = now.Server.Links[who-1]
	}
	switch m.Kind {
	case api.MHello:
		m.Have, m.First = near(v.Have), near(v.Made)
	case api.MEdit:
		op.Client = who
		m.Num, m.Ack, m.Tag, m.Op = near(link.Cum), near(link.Sent), near(v.Have), op
	case api.MNod, api.MBeat:
		m.Ack = near(link.Cum)
	case api.MRecord:
		m.Num, m.Rev, m.Op = near(1), near(v.Have), op
	}
	return m
}

// TestRunsTellSomething: the entries of these runs are of all kinds, played and refused, and come to texts and starts.
func TestRunsTellSomething(t *testing.T) {
	played, refused := map[int]int{}, map[int]int{}
	records, starts := 0, 0
	for seed := range 30 {
		r, x := dice(seed), newSystem(t, 1+seed%4)
		for range 300 {
			if s := x.Do(next(r, x.Report(), mood{3, 30, 5})); s.Err == api.OK {
				played[s.Kind]++
			} else {
				refused[s.Kind]++
			}
		}
		now := x.Report()
		records += len(now.Log)
		starts += now.Server.Epoch
	}
	for kind := api.EInsert; kind <= api.EForge; kind++ {
		if played[kind] < 10 || refused[kind] < 3 && kind != api.EAll && kind != api.ERound {
			t.Fatalf("kind %d: played %d times, refused %d times", kind, played[kind], refused[kind])
		}
	}
	if records < 300 || starts < 60 {
		t.Fatalf("%d records, %d starts", records, starts)
	}
}
