package wire_test

import (
	"bytes"
	"math/rand/v2"
	"slices"
	"testing"

	"jotter/api"
	"jotter/octet"
	"jotter/wire"
)

// field is a field as the chapter's tables tell it: how many bytes it takes, and what it may hold.
type field struct{ width, least, most int }

// tables hold what the chapter tells of messages, or of items. Fields go by the numbers that encoding's errors have; 0 is the kind.
type tables struct {
	fields []field
	bodies map[int][]int
	op     int // the number of Op.Kind; behind it come those of Pos, Ch, Client and Seq
	own    int // the kind whose operation is by field 2, the message's client; 0: there is none
}

var (
	msgTables = tables{
		fields: []field{{1, 1, 6}, {1, 1, 255}, {1, 1, 64}, {2, 0, 4096}, {1, 1, 65}, {2, 1, 4096}, {2, 0, 4096}, {2, 1, 4096}, {2, 0, 4096}, {1, 0, 2}, {2, 0, 4095}, {1, 32, 126}, {1, 1, 64}, {1, 1, 64}},
		bodies: map[int][]int{1: {0, 1, 2, 3, 4}, 2: {0, 1, 2, 5, 6, 8, 9, 10, 11, 12, 13}, 3: {0, 1, 2, 6}, 4: {0, 1, 2}, 5: {0, 1, 2, 5, 6, 7, 9, 10, 11, 12, 13}, 6: {0, 1, 2, 6}},
		op:     9,
		own:    2,
	}
	itemTables = tables{
		fields: []field{{1, 1, 2}, {1, 1, 255}, {2, 0, 4096}, {1, 0, 2}, {2, 0, 4095}, {1, 32, 126}, {1, 1, 64}, {1, 1, 64}},
		bodies: map[int][]int{1: {0, 1}, 2: {0, 2, 3, 4, 5, 6, 7}},
		op:     3,
	}
)

// wrong tells whether field f of v holds what it may not.
func (tb tables) wrong(v []int, f int) bool {
	if !slices.Contains(tb.bodies[v[0]], f) {
		return v[f] != 0
	}
	if f == tb.op+1 && v[tb.op] == api.Nop || f == tb.op+2 && v[tb.op] != api.Insert {
		return v[f] != 0
	}
	if f == tb.op+3 && tb.own != 0 && v[0] == tb.own {
		return v[f] != v[2]
	}
	return v[f] < tb.fields[f].least || v[f] > tb.fields[f].most
}

// encode gives the body of v, or an error's place and number.
func (tb tables) encode(v []int) ([]byte, int, api.Errno) {
	if tb.bodies[v[0]] == nil {
		return nil, 0, api.ErrMsgKind
	}
	for f := 1; f < len(v); f++ {
		if tb.wrong(v, f) {
			return nil, f, api.ErrField
		}
	}
	var body []byte
	for _, f := range tb.bodies[v[0]] {
		if tb.fields[f].width == 2 {
			body = append(body, byte(v[f]/256))
		}
		body = append(body, byte(v[f]%256))
	}
	return body, 0, api.OK
}

// decode gives the values of a body, or an error's place and number.
func (tb tables) decode(body []byte) ([]int, int, api.Errno) {
	none := make([]int, len(tb.fields))
	if len(body) == 0 {
		return none, 0, api.ErrLength
	}
	parts := tb.bodies[int(body[0])]
	if parts == nil {
		return none, 0, api.ErrMsgKind
	}
	size := 0
	for _, f := range parts {
		size += tb.fields[f].width
	}
	if size != len(body) {
		return none, len(body), api.ErrLength
	}
	v := make([]int, len(tb.fields))
	at := 0
	for _, f := range parts {
		from := at
		for range tb.fields[f].width {
			v[f] = v[f]*256 + int(body[at])
			at++
		}
		if tb.wrong(v, f) {
			return none, from, api.ErrField
		}
	}
	return v, 0, api.OK
}

func opOf(v []int) api.Op {
	return api.Op{Kind: v[0], Pos: v[1], Ch: byte(v[2]), Client: v[3], Seq: v[4]}
}

func msgOf(v []int) api.Msg {
	return api.Msg{Kind: v[0], Epoch: v[1], Client: v[2], Have: v[3], First: v[4], Num: v[5], Ack: v[6], Rev: v[7], Tag: v[8], Op: opOf(v[9:])}
}

func itemOf(v []int) api.Item {
	return api.Item{Kind: v[0], Epoch: v[1], Tag: v[2], Op: opOf(v[3:])}
}

func valuesOfMsg(m api.Msg) []int {
	return []int{m.Kind, m.Epoch, m.Client, m.Have, m.First, m.Num, m.Ack, m.Rev, m.Tag, m.Op.Kind, m.Op.Pos, int(m.Op.Ch), m.Op.Client, m.Op.Seq}
}

func valuesOfItem(x api.Item) []int {
	return []int{x.Kind, x.Epoch, x.Tag, x.Op.Kind, x.Op.Pos, int(x.Op.Ch), x.Op.Client, x.Op.Seq}
}

func checkEncode(t *testing.T, v []int) {
	t.Helper()
	body, at, e := msgTables.encode(v)
	if e == api.OK {
		wantEncode(t, msgOf(v), body...)
		wantDecode(t, msgOf(v), body...)
	} else {
		wantNoEncode(t, msgOf(v), at, e)
	}
}

func checkEncodeItem(t *testing.T, v []int) {
	t.Helper()
	payload, at, e := itemTables.encode(v)
	if e == api.OK {
		wantItem(t, itemOf(v), payload...)
	} else {
		wantNoEncodeItem(t, itemOf(v), at, e)
	}
}

// checkBody holds Decode of a body with its right sum against the model; what is taken is encoded again.
func checkBody(t *testing.T, body []byte) {
	t.Helper()
	v, at, e := msgTables.decode(body)
	if e != api.OK {
		wantNoBody(t, at, e, body...)
		return
	}
	wantDecode(t, msgOf(v), body...)
	wantEncode(t, msgOf(v), body...)
}

func checkPayload(t *testing.T, payload []byte) {
	t.Helper()
	v, at, e := itemTables.decode(payload)
	if e != api.OK {
		wantNoDecodeItem(t, at, e, payload...)
		return
	}
	wantItem(t, itemOf(v), payload...)
}

// set gives v with one more field changed. Op.Ch is a byte: what it can't hold is cut ahead of the call.
func set(v []int, f, to, ch int) []int {
	if f == ch {
		to &= 255
	}
	w := slices.Clone(v)
	w[f] = to
	return w
}

func TestEveryFieldOfAMessage(t *testing.T) {
	for i, m := range someMsgs() {
		v := valuesOfMsg(m)
		checkEncode(t, v)
		if i%7 != 0 {
			continue
		}
		for f := range v {
			for _, to := range ends() {
				checkEncode(t, set(v, f, to, 11))
			}
		}
	}
}

func TestEveryTwoFieldsOfAMessage(t *testing.T) {
	bad := []int{-1, 0, 1, 65, 4097, 1 << 40}
	done := map[int]int{}
	for _, m := range someMsgs() {
		if done[m.Kind*3+m.Op.Kind]++; done[m.Kind*3+m.Op.Kind] > 2 {
			continue
		}
		v := valuesOfMsg(m)
		for f := range v {
			for g := range f {
				for _, a := range bad {
					for _, b := range bad {
						checkEncode(t, set(set(v, f, a, 11), g, b, 11))
					}
				}
			}
		}
	}
}

func TestEveryFieldOfAnItem(t *testing.T) {
	for _, x := range someItems() {
		v := valuesOfItem(x)
		checkEncodeItem(t, v)
		for f := range v {
			for _, a := range ends() {
				w := set(v, f, a, 5)
				checkEncodeItem(t, w)
			}
		}
	}
	for _, x := range []api.Item{{Kind: api.LBoot, Epoch: 2}, {Kind: api.LEdit, Op: ins(1, 'a', 1, 1)}, {Kind: api.LEdit, Op: nop(1, 1)}} {
		v := valuesOfItem(x)
		for f := range v {
			for g := range f {
				for _, a := range ends() {
					for _, b := range ends() {
						checkEncodeItem(t, set(set(v, f, a, 5), g, b, 5))
					}
				}
			}
		}
	}
}

func TestEveryByteOfABody(t *testing.T) {
	for i, m := range someMsgs() {
		if i%9 == 0 {
			body, _, _ := msgTables.encode(valuesOfMsg(m))
			everyByte(t, body, checkBody)
		}
	}
}

func TestEveryByteOfAPayload(t *testing.T) {
	for _, x := range someItems() {
		payload, _, _ := itemTables.encode(valuesOfItem(x))
		everyByte(t, payload, checkPayload)
	}
}

// everyByte checks b with each of its bytes turned into each other.
func everyByte(t *testing.T, b []byte, check func(*testing.T, []byte)) {
	t.Helper()
	for at := range b {
		for c := range 256 {
			changed := bytes.Clone(b)
			changed[at] = byte(c)
			check(t, changed)
		}
	}
}

func TestEveryNumberOfTwoBytes(t *testing.T) {
	for n := range 65536 {
		high, low := byte(n>>8), byte(n)
		checkBody(t, []byte{3, 1, 1, high, low})
		checkBody(t, []byte{1, 1, 1, high, low, 1})
		checkBody(t, []byte{5, 1, 1, 0, 1, 0, 0, high, low, 2, 0, 0, 0, 1, 1})
		checkPayload(t, []byte{2, high, low, 2, 0, 0, 0, 1, 1})
		checkPayload(t, []byte{2, 0, 0, 1, high, low, 32, 1, 1})
	}
}

// smallByte mixes bytes that fields may hold with any at all.
func smallByte(r *rand.Rand) byte {
	switch r.IntN(4) {
	case 0:
		return byte(r.Uint32())
	case 1:
		return byte(r.IntN(128))
	}
	return byte(r.IntN(3))
}

func TestRandomBodies(t *testing.T) {
	r := dice(1)
	sizes := []int{0, 6, 15, 5, 3, 15, 5}
	for range 100_000 {
		kind := 1 + r.IntN(6)
		size := sizes[kind]
		if r.IntN(10) == 0 {
			size = 1 + r.IntN(60)
		}
		body := make([]byte, size)
		for i := range body {
			body[i] = smallByte(r)
		}
		body[0] = byte(kind)
		if size == 15 && r.IntN(2) == 0 {
			body[13] = body[2]
		}
		checkBody(t, body)
		checkPayload(t, body[:min(size, 9)])
	}
}

func TestRandomDatagrams(t *testing.T) {
	r := dice(2)
	for range 100_000 {
		b := someBytes(r, r.IntN(80))
		got, err := wire.Decode(b)
		if err == nil {
			t.Fatalf("P6.1: Decode(% X) = %+v", b, got)
		}
		switch {
		case len(b) > 64:
			wantNoDecode(t, b, 64, api.ErrFrame)
		case len(b) < 4:
			wantNoDecode(t, b, len(b), api.ErrLength)
		default:
			wantNoDecode(t, b, len(b)-4, api.ErrDatagram)
		}
		if len(b) <= 60 {
			checkBody(t, b)
		}
	}
}

func TestBothWaysRound(t *testing.T) {
	for _, m := range someMsgs() {
		b := bothWays(t, "P6.3", m, wire.Encode, wire.Decode)
		if body, err := octet.Open(b); err != nil || len(b) > api.MaxFrame || int(body[0]) != m.Kind {
			t.Errorf("P6.3: Encode(%+v) = % X, which is no datagram", m, b)
		}
	}
	for _, x := range someItems() {
		b := bothWays(t, "P6.7", x, wire.EncodeItem, wire.DecodeItem)
		if len(b) > api.MaxPayload || int(b[0]) != x.Kind {
			t.Errorf("P6.7: EncodeItem(%+v) = % X, which is no payload", x, b)
		}
	}
}

// bothWays gives the bytes of x, which must give back x, and x them.
func bothWays[T comparable](t *testing.T, what string, x T, encode func(T) ([]byte, error), decode func([]byte) (T, error)) []byte {
	t.Helper()
	b, err := encode(x)
	if err != nil || len(b) == 0 {
		t.Fatalf("%s: %+v is encoded as % X, %v", what, x, b, err)
	}
	got, err := decode(b)
	if err != nil || got != x {
		t.Errorf("%s: %+v comes back as %+v, %v", what, x, got, err)
	}
	again, err := encode(got)
	if err != nil || !bytes.Equal(again, b) {
		t.Errorf("%s: % X comes back as % X, %v", what, b, again, err)
	}
	return b
}
