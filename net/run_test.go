package net_test

import (
	"bytes"
	"errors"
	"math/rand/v2"
	"testing"

	"jotter/api"
	"jotter/net"
	"jotter/octet"
)

// wantArrived fails the test unless g is what somebody sent, or is spoilt and refused for its sum.
func wantArrived(t *testing.T, g api.Datagram, sent map[string]int) {
	t.Helper()
	_, err := octet.Open(g.Bytes)
	switch {
	case g.Spoilt && !errors.Is(err, api.ErrSum):
		t.Errorf("P7.8: %s is spoilt, and opens with %v", told(g), err)
	case !g.Spoilt && (err != nil || sent[told(g)] == 0):
		t.Errorf("P7.8: %s is not spoilt: opens with %v, sent %d times", told(g), err, sent[told(g)])
	}
}

func TestEveryFlipOfSealedBytesIsTold(t *testing.T) {
	r := dice(3)
	for _, n := range []int{0, 1, 2, 11, 60} {
		sealed := octet.Seal(some(r, n))
		for at := range sealed {
			for mask := 1; mask <= 255; mask++ {
				x := must(t, 1)
				send(t, x, 1, 0, string(sealed))
				x.Double(0)
				wantErr(t, "P7.6: Flip", x.Flip(0, at, mask), api.OK)
				x.Double(0)
				flipped, _ := x.Deliver(0)
				clean, _ := x.Deliver(0)
				twin, _ := x.Deliver(0)
				if !flipped.Spoilt || !twin.Spoilt || clean.Spoilt || !bytes.Equal(clean.Bytes, sealed) {
					t.Fatalf("P7.8: sent %q, came %s, %s, %s", sealed, told(flipped), told(clean), told(twin))
				}
				wantArrived(t, flipped, nil)
				wantArrived(t, twin, nil)
			}
		}
	}
}

// disturb does one thing to the i-th in flight, or to none.
func disturb(r *rand.Rand, x *net.Net) {
	i := r.IntN(x.Count()+2) - 1
	switch r.IntN(4) {
	case 0:
		x.Drop(i)
	case 1:
		x.Double(i)
	default:
		x.Flip(i, r.IntN(70)-2, r.IntN(260)-2)
	}
}

func TestWhatArrivesWasSent(t *testing.T) {
	for seed := range 60 {
		r := dice(seed)
		x := must(t, 3)
		sent := map[string]int{}
		for range 200 {
			g := api.Datagram{From: 1 + r.IntN(3), Bytes: octet.Seal(some(r, r.IntN(61)))}
			if r.IntN(2) == 0 {
				g.From, g.To = g.To, g.From
			}
			wantErr(t, "P7.2: Send", x.Send(g.From, g.To, g.Bytes), api.OK)
			sent[told(g)]++
			disturb(r, x)
			disturb(r, x)
			if g, e := x.Deliver(r.IntN(x.Count() + 1)); e == api.OK {
				wantArrived(t, g, sent)
			}
		}
		for range x.Count() {
			g, e := x.Deliver(r.IntN(x.Count()))
			wantErr(t, "P7.3: Deliver", e, api.OK)
			wantArrived(t, g, sent)
		}
	}
}

// change does one call that may put one into flight or take one out, and tells by how many Count must have changed.
func change(r *rand.Rand, x *net.Net, grows bool) int {
	i := r.IntN(x.Count()+3) - 1
	put := r.IntN(8) == 0 != grows
	by, e := -1, api.OK
	switch one := r.IntN(2) == 0; {
	case put && one:
		by, e = 1, x.Send(0, r.IntN(7), some(r, r.IntN(66)))
	case put:
		by, e = 1, x.Double(i)
	case one:
		_, e = x.Deliver(i)
	default:
		e = x.Drop(i)
	}
	if e != api.OK {
		return 0
	}
	return by
}

func TestNothingComesFromNothing(t *testing.T) {
	x := must(t, 5)
	r := dice(9)
	count, most, grows := 0, 0, true
	for range 20_000 {
		count += change(r, x, grows)
		most = max(most, count)
		grows = count == 0 || grows && count < api.MaxFlight
		x.Flip(r.IntN(count+1), 0, 1)
		if x.Count() != count {
			t.Fatalf("P7.9: Count %d, want %d", x.Count(), count)
		}
	}
	if len(x.Flight()) != count || most != api.MaxFlight {
		t.Errorf("P7.9: Flight of %d, want %d; the most was %d", len(x.Flight()), count, most)
	}
}
