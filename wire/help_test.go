package wire_test

import (
	"bytes"
	"errors"
	"math"
	"math/rand/v2"
	"testing"

	"jotter/api"
	"jotter/octet"
	"jotter/wire"
)

// ends are numbers that no byte, and no two, can hold, and some that they can.
func ends() []int {
	return []int{math.MinInt, math.MinInt + 1, -65536, -257, -256, -255, -2, -1, 0, 1, 2, 3, 31, 32, 63, 64, 65, 66, 126, 127, 254, 255, 256, 257, 258, 300, 4094, 4095, 4096, 4097, 65535, 65536, 65537, 65538, 1 << 32, 1<<32 + 1, math.MaxInt - 1, math.MaxInt}
}

func ins(pos int, ch byte, client, seq int) api.Op {
	return api.Op{Kind: api.Insert, Pos: pos, Ch: ch, Client: client, Seq: seq}
}

func del(pos, client, seq int) api.Op {
	return api.Op{Kind: api.Delete, Pos: pos, Client: client, Seq: seq}
}

func nop(client, seq int) api.Op { return api.Op{Kind: api.Nop, Client: client, Seq: seq} }

// someOps are operations by client c that may stand, of each kind and at the ends of their fields.
func someOps(c int) []api.Op {
	return []api.Op{ins(0, 'A', c, 1), ins(4095, ' ', c, 64), ins(256, '~', c, 2), del(0, c, 1), del(4095, c, 64), nop(c, 1), nop(c, 64)}
}

// someMsgs are messages that may stand, of each kind and at the ends of their fields.
func someMsgs() []api.Msg {
	var all []api.Msg
	for _, e := range []int{1, 2, 255} {
		for _, c := range []int{1, 2, 64} {
			all = append(all, api.Msg{Kind: api.MInvite, Epoch: e, Client: c})
			for _, n := range []int{0, 1, 255, 256, 4096} {
				all = append(all,
					api.Msg{Kind: api.MNod, Epoch: e, Client: c, Ack: n},
					api.Msg{Kind: api.MBeat, Epoch: e, Client: c, Ack: n},
					api.Msg{Kind: api.MHello, Epoch: e, Client: c, Have: n, First: 1},
					api.Msg{Kind: api.MHello, Epoch: e, Client: c, Have: n, First: 65})
				for _, op := range someOps(c) {
					all = append(all, api.Msg{Kind: api.MEdit, Epoch: e, Client: c, Num: max(1, n), Ack: 4096 - n, Tag: n, Op: op})
				}
				for _, op := range someOps(65 - c) {
					all = append(all, api.Msg{Kind: api.MRecord, Epoch: e, Client: c, Num: 4096 - min(n, 4095), Ack: n, Rev: max(1, n), Op: op})
				}
			}
		}
	}
	return all
}

// someItems are items that may stand, of each kind and at the ends of their fields.
func someItems() []api.Item {
	var all []api.Item
	for _, e := range []int{1, 2, 255} {
		all = append(all, api.Item{Kind: api.LBoot, Epoch: e})
	}
	for _, c := range []int{1, 2, 64} {
		for _, n := range []int{0, 1, 255, 256, 4096} {
			for _, op := range someOps(c) {
				all = append(all, api.Item{Kind: api.LEdit, Tag: n, Op: op})
			}
		}
	}
	return all
}

// wantFault fails the test unless the error is a Fault with that number and that place.
func wantFault(t *testing.T, what string, err error, at int, want api.Errno) {
	t.Helper()
	var fault *api.Fault
	if !errors.As(err, &fault) || fault.At != at || !errors.Is(err, want) || fault.Err != want {
		t.Errorf("%s: the error %v, want %d at %d", what, err, want, at)
	}
}

func wantEncode(t *testing.T, m api.Msg, body ...byte) {
	t.Helper()
	got, err := wire.Encode(m)
	if want := octet.Seal(body); err != nil || !bytes.Equal(got, want) {
		t.Errorf("P6.2: Encode(%+v) = % X, %v, want % X", m, got, err, want)
	}
}

func wantNoEncode(t *testing.T, m api.Msg, at int, want api.Errno) {
	t.Helper()
	wantNoBytes(t, "P6.2: Encode", wire.Encode, m, at, want)
}

// wantNoBytes fails the test unless x is refused so, and with no bytes.
func wantNoBytes[T any](t *testing.T, what string, encode func(T) ([]byte, error), x T, at int, want api.Errno) {
	t.Helper()
	got, err := encode(x)
	if got != nil {
		t.Errorf("%s(%+v) answers % X beside its error", what, x, got)
	}
	wantFault(t, what, err, at, want)
}

func wantDecode(t *testing.T, m api.Msg, body ...byte) {
	t.Helper()
	got, err := wire.Decode(octet.Seal(body))
	if err != nil || got != m {
		t.Errorf("P6.1: Decode of the body % X = %+v, %v, want %+v", body, got, err, m)
	}
}

// wantNoDecode is of a whole datagram, wantNoBody of a body that gets its right sum.
func wantNoDecode(t *testing.T, b []byte, at int, want api.Errno) {
	t.Helper()
	wantNothing(t, "P6.1: Decode", wire.Decode, b, at, want)
}

// wantNothing fails the test unless b is refused so, and with the zero answer.
func wantNothing[T comparable](t *testing.T, what string, decode func([]byte) (T, error), b []byte, at int, want api.Errno) {
	t.Helper()
	var zero T
	got, err := decode(b)
	if got != zero {
		t.Errorf("%s(% X) answers %+v beside its error", what, b, got)
	}
	wantFault(t, what, err, at, want)
}

func wantNoBody(t *testing.T, at int, want api.Errno, body ...byte) {
	t.Helper()
	wantNoDecode(t, octet.Seal(body), at, want)
}

func wantItem(t *testing.T, x api.Item, payload ...byte) {
	t.Helper()
	b, err := wire.EncodeItem(x)
	if err != nil || !bytes.Equal(b, payload) {
		t.Errorf("P6.6: EncodeItem(%+v) = % X, %v, want % X", x, b, err, payload)
	}
	got, err := wire.DecodeItem(payload)
	if err != nil || got != x {
		t.Errorf("P6.5: DecodeItem(% X) = %+v, %v, want %+v", payload, got, err, x)
	}
}

func wantNoEncodeItem(t *testing.T, x api.Item, at int, want api.Errno) {
	t.Helper()
	wantNoBytes(t, "P6.6: EncodeItem", wire.EncodeItem, x, at, want)
}

func wantNoDecodeItem(t *testing.T, at int, want api.Errno, payload ...byte) {
	t.Helper()
	wantNothing(t, "P6.5: DecodeItem", wire.DecodeItem, payload, at, want)
}

// dice gives numbers that look mixed, the same at every run.
func dice(seed int) *rand.Rand { return rand.New(rand.NewPCG(uint64(seed), 6)) }

func someBytes(r *rand.Rand, n int) []byte {
	b := make([]byte, n)
	for i := range b {
		b[i] = byte(r.Uint32())
	}
	return b
}
