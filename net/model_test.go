package net_test

import (
	"math/rand/v2"
	"slices"
	"strconv"
	"testing"

	"jotter/api"
	"jotter/net"
)

// packet is a datagram of the model; its bytes are a text, so that no two can share them.
type packet struct {
	from, to int
	bytes    string
	spoilt   bool
}

func (p packet) told() string {
	return told(api.Datagram{From: p.from, To: p.to, Bytes: []byte(p.bytes), Spoilt: p.spoilt})
}

// model is a network told in the plainest way: a list, the oldest first.
type model struct {
	clients int
	flight  []packet
}

func (m *model) send(from, to int, b []byte) api.Errno {
	for _, a := range []int{from, to} {
		if a < 0 || a > m.clients {
			return api.ErrAddress
		}
	}
	if from == 0 && to == 0 || from != 0 && to != 0 {
		return api.ErrAddress
	}
	if len(b) > 64 {
		return api.ErrBytes
	}
	if len(m.flight) == 2048 {
		return api.ErrLost
	}
	m.flight = append(m.flight, packet{from, to, string(b), false})
	return api.OK
}

// takeOut gives the i-th and takes it out of flight.
func (m *model) takeOut(i int) (packet, api.Errno) {
	if i < 0 || i >= len(m.flight) {
		return packet{}, api.ErrNone
	}
	p := m.flight[i]
	m.flight = slices.Delete(m.flight, i, i+1)
	return p, api.OK
}

func (m *model) double(i int) api.Errno {
	if i < 0 || i >= len(m.flight) {
		return api.ErrNone
	}
	if len(m.flight) == 2048 {
		return api.ErrLost
	}
	m.flight = append(m.flight, m.flight[i])
	return api.OK
}

func (m *model) flip(i, at, mask int) api.Errno {
	if i < 0 || i >= len(m.flight) {
		return api.ErrNone
	}
	p := m.flight[i]
	if mask < 1 || mask > 255 || at < 0 || at >= len(p.bytes) {
		return api.ErrFlip
	}
	if p.spoilt {
		return api.ErrSpoilt
	}
	p.bytes = p.bytes[:at] + string([]byte{p.bytes[at] ^ byte(mask)}) + p.bytes[at+1:]
	p.spoilt = true
	m.flight[i] = p
	return api.OK
}

func (m *model) told() []string {
	var words []string
	for _, p := range m.flight {
		words = append(words, p.told())
	}
	return words
}

// playOne does one call to both, and fails the test where they answer differently.
func playOne(t *testing.T, r *rand.Rand, x *net.Net, m *model) {
	t.Helper()
	i := r.IntN(len(m.flight)+4) - 2
	switch r.IntN(9) {
	case 0, 1, 2:
		from, to := r.IntN(m.clients+3)-1, 0
		if r.IntN(2) == 0 {
			from, to = to, from
		}
		if r.IntN(8) == 0 {
			to = r.IntN(m.clients+3) - 1
		}
		b := some(r, r.IntN(70))
		e := m.send(from, to, b)
		wantErr(t, "P7.2: Send", x.Send(from, to, b), e)
	case 3:
		g, e := x.Deliver(i)
		p, want := m.takeOut(i)
		if e != want || told(g) != p.told() {
			t.Errorf("P7.3: Deliver(%d) = %s, %d, want %s, %d", i, told(g), e, p.told(), want)
		}
	case 4:
		_, want := m.takeOut(i)
		wantErr(t, "P7.4: Drop", x.Drop(i), want)
	case 5:
		wantErr(t, "P7.5: Double", x.Double(i), m.double(i))
	case 6, 7:
		at, mask := r.IntN(70)-3, r.IntN(270)-5
		wantErr(t, "P7.6: Flip", x.Flip(i, at, mask), m.flip(i, at, mask))
	default:
		scribble(x.Flight())
	}
}

func TestAgainstModel(t *testing.T) {
	for seed := range 300 {
		r := dice(seed)
		clients := 1 + r.IntN(4)
		x, m := must(t, clients), &model{clients: clients}
		for range 150 {
			playOne(t, r, x, m)
			wantFlight(t, "P7.7: against the model", x, m.told()...)
		}
	}
}

func TestAgainstModelNearTheLimit(t *testing.T) {
	for seed := range 4 {
		r := dice(seed)
		x, m := must(t, 64), &model{clients: 64}
		for i := range api.MaxFlight - 3 {
			b := []byte(strconv.Itoa(i))
			wantErr(t, "P7.2: Send", x.Send(1+i%64, 0, b), m.send(1+i%64, 0, b))
		}
		for range 60 {
			playOne(t, r, x, m)
			wantFlight(t, "P7.7: against the model near the limit", x, m.told()...)
		}
	}
}

func TestSameCallsSameAnswers(t *testing.T) {
	one, two := must(t, 3), must(t, 3)
	r1, r2 := dice(77), dice(77)
	m1, m2 := &model{clients: 3}, &model{clients: 3}
	for range 300 {
		playOne(t, r1, one, m1)
		playOne(t, r2, two, m2)
		if a, b := toldAll(one.Flight()), toldAll(two.Flight()); a != b {
			t.Fatalf("P0.1: the same calls: %s and %s", brief(a), brief(b))
		}
	}
}
