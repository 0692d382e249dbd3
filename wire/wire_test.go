package wire_test

import (
	"bytes"
	"testing"

	"jotter/api"
	"jotter/octet"
	"jotter/wire"
)

func TestASumStandsLowestByteFirst(t *testing.T) {
	b, err := wire.Encode(api.Msg{Kind: api.MInvite, Epoch: 1, Client: 3})
	sum := octet.Sum([]byte{4, 1, 3})
	if want := []byte{4, 1, 3, byte(sum), byte(sum >> 8), byte(sum >> 16), byte(sum >> 24)}; err != nil || !bytes.Equal(b, want) {
		t.Errorf("P6.2: Encode of an Invite = % X, %v, want % X", b, err, want)
	}
}

func TestMessagesAndTheirBodies(t *testing.T) {
	for _, c := range []struct {
		m    api.Msg
		body []byte
	}{
		{api.Msg{Kind: api.MInvite, Epoch: 1, Client: 3}, []byte{4, 1, 3}},
		{api.Msg{Kind: api.MHello, Epoch: 2, Client: 1, Have: 300, First: 1}, []byte{1, 2, 1, 1, 0x2C, 1}},
		{api.Msg{Kind: api.MHello, Epoch: 255, Client: 64, Have: 4096, First: 65}, []byte{1, 255, 64, 16, 0, 65}},
		{api.Msg{Kind: api.MEdit, Epoch: 1, Client: 2, Num: 1, Op: ins(0, 'A', 2, 1)}, []byte{2, 1, 2, 0, 1, 0, 0, 0, 0, 1, 0, 0, 0x41, 2, 1}},
		{api.Msg{Kind: api.MEdit, Epoch: 3, Client: 64, Num: 0x0102, Ack: 0x0304, Tag: 0x0506, Op: ins(0x0708, '~', 64, 63)}, []byte{2, 3, 64, 1, 2, 3, 4, 5, 6, 1, 7, 8, 126, 64, 63}},
		{api.Msg{Kind: api.MEdit, Epoch: 3, Client: 5, Num: 4096, Ack: 4096, Tag: 4096, Op: nop(5, 9)}, []byte{2, 3, 5, 16, 0, 16, 0, 16, 0, 0, 0, 0, 0, 5, 9}},
		{api.Msg{Kind: api.MNod, Epoch: 9, Client: 8, Ack: 0x0A0B}, []byte{3, 9, 8, 10, 11}},
		{api.Msg{Kind: api.MRecord, Epoch: 3, Client: 4, Num: 0x0102, Ack: 0x0304, Rev: 0x0506, Op: del(0x0708, 64, 63)}, []byte{5, 3, 4, 1, 2, 3, 4, 5, 6, 2, 7, 8, 0, 64, 63}},
		{api.Msg{Kind: api.MRecord, Epoch: 1, Client: 4, Num: 1, Rev: 1, Op: ins(4095, ' ', 4, 1)}, []byte{5, 1, 4, 0, 1, 0, 0, 0, 1, 1, 15, 255, 32, 4, 1}},
		{api.Msg{Kind: api.MRecord, Epoch: 1, Client: 4, Num: 1, Rev: 1, Op: nop(7, 2)}, []byte{5, 1, 4, 0, 1, 0, 0, 0, 1, 0, 0, 0, 0, 7, 2}},
		{api.Msg{Kind: api.MBeat, Epoch: 1, Client: 1}, []byte{6, 1, 1, 0, 0}},
		{api.Msg{Kind: api.MBeat, Epoch: 1, Client: 1, Ack: 4096}, []byte{6, 1, 1, 16, 0}},
	} {
		wantEncode(t, c.m, c.body...)
		wantDecode(t, c.m, c.body...)
	}
}

func TestDecodeRefusesFrames(t *testing.T) {
	turned := octet.Seal([]byte{4, 1, 3})
	turned[5] ^= 4
	wantNoDecode(t, turned, 3, api.ErrDatagram)
	wantNoDecode(t, []byte{0, 0, 0, 0}, 0, api.ErrLength)
	wantNoDecode(t, []byte{1, 0, 0, 0}, 0, api.ErrDatagram)
	wantNoDecode(t, []byte{0, 0, 0, 0, 0}, 1, api.ErrDatagram)
	for n := range 4 {
		wantNoDecode(t, make([]byte, n), n, api.ErrLength)
		wantNoDecode(t, []byte{4, 1, 3}[:min(n, 3)], n, api.ErrLength)
	}
	wantNoDecode(t, nil, 0, api.ErrLength)
	for _, n := range []int{65, 66, 1000, 1 << 20} {
		wantNoDecode(t, make([]byte, n), 64, api.ErrFrame)
		wantNoDecode(t, octet.Seal(make([]byte, n-4)), 64, api.ErrFrame)
	}
	wantNoDecode(t, make([]byte, 64), 60, api.ErrDatagram)
	wantNoDecode(t, octet.Seal(make([]byte, 60)), 0, api.ErrMsgKind)
}

func TestDecodeRefusesKinds(t *testing.T) {
	for kind := range 256 {
		if kind >= 1 && kind <= 6 {
			continue
		}
		wantNoBody(t, 0, api.ErrMsgKind, byte(kind))
		wantNoBody(t, 0, api.ErrMsgKind, byte(kind), 1, 1)
		wantNoBody(t, 0, api.ErrMsgKind, byte(kind), 0, 0, 0, 0, 0)
	}
}

func TestDecodeRefusesLengths(t *testing.T) {
	right := map[int]int{api.MHello: 6, api.MEdit: 15, api.MNod: 5, api.MInvite: 3, api.MRecord: 15, api.MBeat: 5}
	for kind, size := range right {
		for n := 1; n <= 60; n++ {
			// All bytes but the kind's are 0: the length is looked at ahead of the fields.
			body := append([]byte{byte(kind)}, make([]byte, n-1)...)
			if n == size {
				wantNoBody(t, 1, api.ErrField, body...)
			} else {
				wantNoBody(t, n, api.ErrLength, body...)
			}
		}
	}
	wantNoBody(t, 2, api.ErrLength, 4, 1)
	wantNoBody(t, 4, api.ErrLength, 4, 1, 3, 0)
}

func TestDecodeRefusesFields(t *testing.T) {
	for _, c := range []struct {
		at   int
		body []byte
	}{
		{1, []byte{4, 0, 3}},
		{1, []byte{4, 0, 0}},
		{2, []byte{4, 1, 65}},
		{2, []byte{4, 1, 0}},
		{3, []byte{1, 1, 1, 16, 1, 0}},
		{5, []byte{1, 1, 1, 16, 0, 0}},
		{5, []byte{1, 1, 1, 16, 0, 66}},
		{3, []byte{3, 1, 1, 16, 1}},
		{3, []byte{6, 1, 1, 255, 255}},
		{3, []byte{2, 1, 2, 0, 0, 255, 255, 255, 255, 3, 255, 255, 0, 3, 0}},
		{3, []byte{2, 1, 2, 16, 1, 0, 0, 0, 0, 1, 0, 0, 0x41, 2, 1}},
		{5, []byte{2, 1, 2, 0, 1, 16, 1, 255, 255, 3, 255, 255, 0, 3, 0}},
		{7, []byte{2, 1, 2, 0, 1, 16, 0, 16, 1, 3, 255, 255, 0, 3, 0}},
		{9, []byte{2, 1, 2, 0, 1, 16, 0, 16, 0, 3, 255, 255, 0, 3, 0}},
		{10, []byte{2, 1, 2, 0, 1, 0, 0, 0, 0, 1, 16, 0, 0, 3, 0}},
		{10, []byte{2, 1, 2, 0, 1, 0, 0, 0, 0, 2, 16, 0, 1, 3, 0}},
		{10, []byte{2, 1, 2, 0, 1, 0, 0, 0, 0, 0, 0, 1, 1, 3, 0}},
		{12, []byte{2, 1, 2, 0, 1, 0, 0, 0, 0, 1, 15, 255, 31, 3, 0}},
		{12, []byte{2, 1, 2, 0, 1, 0, 0, 0, 0, 1, 15, 255, 127, 3, 0}},
		{12, []byte{2, 1, 2, 0, 1, 0, 0, 0, 0, 1, 15, 255, 0, 3, 0}},
		{12, []byte{2, 1, 2, 0, 1, 0, 0, 0, 0, 2, 15, 255, 32, 3, 0}},
		{12, []byte{2, 1, 2, 0, 1, 0, 0, 0, 0, 0, 0, 0, 1, 3, 0}},
		{13, []byte{2, 1, 2, 0, 1, 0, 0, 0, 0, 1, 0, 0, 0x41, 3, 0}},
		{13, []byte{2, 1, 2, 0, 1, 0, 0, 0, 0, 1, 0, 0, 0x41, 1, 1}},
		{14, []byte{2, 1, 2, 0, 1, 0, 0, 0, 0, 1, 0, 0, 0x41, 2, 0}},
		{14, []byte{2, 1, 2, 0, 1, 0, 0, 0, 0, 1, 0, 0, 0x41, 2, 65}},
		{7, []byte{5, 1, 2, 0, 1, 0, 0, 0, 0, 3, 0, 0, 0x41, 0, 0}},
		{7, []byte{5, 1, 2, 0, 1, 0, 0, 16, 1, 1, 0, 0, 0x41, 3, 1}},
		{13, []byte{5, 1, 2, 0, 1, 0, 0, 0, 1, 1, 0, 0, 0x41, 0, 0}},
		{13, []byte{5, 1, 2, 0, 1, 0, 0, 0, 1, 1, 0, 0, 0x41, 65, 1}},
	} {
		wantNoBody(t, c.at, api.ErrField, c.body...)
	}
}

func TestEncodeRefuses(t *testing.T) {
	wantNoEncode(t, api.Msg{}, 0, api.ErrMsgKind)
	for _, kind := range ends() {
		if kind < 1 || kind > 6 {
			wantNoEncode(t, api.Msg{Kind: kind, Epoch: 1, Client: 1}, 0, api.ErrMsgKind)
			wantNoEncode(t, api.Msg{Kind: kind, Op: del(-1, -1, -1)}, 0, api.ErrMsgKind)
		}
	}
	edit := api.Msg{Kind: api.MEdit, Epoch: 1, Client: 2, Num: 1}
	for _, c := range []struct {
		at int
		op api.Op
	}{
		{9, api.Op{Kind: 3, Pos: -1, Ch: 7}},
		{9, api.Op{Kind: -1, Client: 2, Seq: 1}},
		{10, ins(4096, 7, 0, 0)},
		{10, ins(-1, 'A', 2, 1)},
		{10, del(4096, 2, 1)},
		{10, api.Op{Kind: api.Nop, Pos: 1, Ch: 1, Client: 2, Seq: 1}},
		{11, api.Op{Kind: api.Delete, Pos: 7, Ch: 'A', Client: 2, Seq: 1}},
		{11, api.Op{Kind: api.Nop, Ch: ' ', Client: 2, Seq: 1}},
		{11, ins(0, 31, 0, 0)},
		{11, ins(0, 127, 2, 1)},
		{11, ins(0, 0, 2, 1)},
		{12, ins(0, 'A', 3, 0)},
		{12, ins(0, 'A', 0, 1)},
		{12, ins(0, 'A', 258, 1)},
		{13, ins(0, 'A', 2, 0)},
		{13, ins(0, 'A', 2, 65)},
		{13, ins(0, 'A', 2, 257)},
	} {
		m := edit
		m.Op = c.op
		wantNoEncode(t, m, c.at, api.ErrField)
	}
	wantNoEncode(t, api.Msg{Kind: api.MNod, Epoch: 1, Client: 1, Ack: 5, Have: 2}, 3, api.ErrField)
	wantNoEncode(t, api.Msg{Kind: api.MRecord, Epoch: 1, Client: 1, Num: 1, Tag: 1, Op: nop(65, 1)}, 7, api.ErrField)
	wantNoEncode(t, api.Msg{Kind: api.MRecord, Epoch: 1, Client: 1, Num: 1, Rev: 1, Tag: 1, Op: nop(65, 1)}, 8, api.ErrField)
	wantNoEncode(t, api.Msg{Kind: api.MRecord, Epoch: 1, Client: 1, Num: 1, Rev: 1, Op: nop(65, 1)}, 12, api.ErrField)
	wantNoEncode(t, api.Msg{Kind: api.MHello, Epoch: 1, Client: 1, First: 1, Op: api.Op{Ch: ' '}}, 11, api.ErrField)
	wantNoEncode(t, api.Msg{Kind: api.MInvite, Epoch: 256, Client: 65}, 1, api.ErrField)
	wantNoEncode(t, api.Msg{Kind: api.MInvite, Epoch: 255, Client: 65, Ack: -1}, 2, api.ErrField)
	wantNoEncode(t, api.Msg{Kind: api.MInvite, Epoch: 255, Client: 64, Ack: -1}, 6, api.ErrField)
}

func TestOneChangedByteIsRefused(t *testing.T) {
	for i, m := range someMsgs() {
		b, err := wire.Encode(m)
		if err != nil {
			t.Fatalf("P6.2: Encode(%+v): %v", m, err)
		}
		for at := range b {
			for mask := 1 + i%8; mask < 256; mask += 8 {
				spoilt := bytes.Clone(b)
				spoilt[at] ^= byte(mask)
				if got, err := wire.Decode(spoilt); err == nil {
					t.Fatalf("P6.4: % X, spoilt to % X, is taken as %+v", b, spoilt, got)
				}
				wantNoDecode(t, spoilt, len(b)-4, api.ErrDatagram)
			}
		}
	}
}

func TestItemsAndTheirPayloads(t *testing.T) {
	wantItem(t, api.Item{Kind: api.LBoot, Epoch: 7}, 1, 7)
	wantItem(t, api.Item{Kind: api.LBoot, Epoch: 1}, 1, 1)
	wantItem(t, api.Item{Kind: api.LBoot, Epoch: 255}, 1, 255)
	wantItem(t, api.Item{Kind: api.LEdit, Tag: 258, Op: del(1, 64, 64)}, 2, 1, 2, 2, 0, 1, 0, 64, 64)
	wantItem(t, api.Item{Kind: api.LEdit, Op: ins(0, ' ', 1, 1)}, 2, 0, 0, 1, 0, 0, 32, 1, 1)
	wantItem(t, api.Item{Kind: api.LEdit, Tag: 4096, Op: ins(4095, '~', 2, 3)}, 2, 16, 0, 1, 15, 255, 126, 2, 3)
	wantItem(t, api.Item{Kind: api.LEdit, Tag: 1, Op: nop(3, 9)}, 2, 0, 1, 0, 0, 0, 0, 3, 9)
}

func TestDecodeItemRefuses(t *testing.T) {
	wantNoDecodeItem(t, 0, api.ErrLength)
	if _, err := wire.DecodeItem([]byte{}); api.Code(err) != api.ErrLength {
		t.Errorf("P6.5: DecodeItem of the empty list: %v", err)
	}
	for kind := range 256 {
		if kind != api.LBoot && kind != api.LEdit {
			wantNoDecodeItem(t, 0, api.ErrMsgKind, byte(kind))
			wantNoDecodeItem(t, 0, api.ErrMsgKind, byte(kind), 1)
			wantNoDecodeItem(t, 0, api.ErrMsgKind, byte(kind), 0, 0, 1, 0, 0, 32, 1, 1)
		}
	}
	for n := 1; n < 200; n++ {
		if n != 2 {
			wantNoDecodeItem(t, n, api.ErrLength, append([]byte{1}, make([]byte, n-1)...)...)
		}
		if n != 9 {
			wantNoDecodeItem(t, n, api.ErrLength, append([]byte{2}, make([]byte, n-1)...)...)
		}
	}
	wantNoDecodeItem(t, 1, api.ErrField, 1, 0)
	wantNoDecodeItem(t, 1, api.ErrField, 2, 16, 1, 3, 255, 255, 0, 0, 0)
	wantNoDecodeItem(t, 3, api.ErrField, 2, 16, 0, 3, 255, 255, 0, 0, 0)
	wantNoDecodeItem(t, 4, api.ErrField, 2, 0, 0, 1, 16, 0, 0, 0, 0)
	wantNoDecodeItem(t, 4, api.ErrField, 2, 0, 0, 0, 0, 1, 1, 0, 0)
	wantNoDecodeItem(t, 6, api.ErrField, 2, 0, 0, 1, 0, 0, 31, 0, 0)
	wantNoDecodeItem(t, 6, api.ErrField, 2, 0, 0, 2, 0, 0, 32, 0, 0)
	wantNoDecodeItem(t, 6, api.ErrField, 2, 0, 0, 0, 0, 0, 32, 0, 0)
	wantNoDecodeItem(t, 7, api.ErrField, 2, 0, 0, 1, 0, 0, 0x61, 65, 0)
	wantNoDecodeItem(t, 7, api.ErrField, 2, 0, 0, 1, 0, 0, 0x61, 0, 0)
	wantNoDecodeItem(t, 8, api.ErrField, 2, 0, 0, 1, 0, 0, 0x61, 1, 0)
	wantNoDecodeItem(t, 8, api.ErrField, 2, 0, 0, 1, 0, 0, 0x61, 1, 65)
}

func TestEncodeItemRefuses(t *testing.T) {
	for _, kind := range ends() {
		if kind != api.LBoot && kind != api.LEdit {
			wantNoEncodeItem(t, api.Item{Kind: kind, Epoch: -1, Tag: -1}, 0, api.ErrMsgKind)
		}
	}
	for _, c := range []struct {
		at int
		x  api.Item
	}{
		{1, api.Item{Kind: api.LBoot}},
		{1, api.Item{Kind: api.LBoot, Epoch: 256, Tag: 1}},
		{1, api.Item{Kind: api.LBoot, Epoch: 257}},
		{2, api.Item{Kind: api.LBoot, Epoch: 1, Tag: 1, Op: del(0, 1, 1)}},
		{3, api.Item{Kind: api.LBoot, Epoch: 1, Op: del(1, 1, 1)}},
		{4, api.Item{Kind: api.LBoot, Epoch: 1, Op: api.Op{Pos: -1, Ch: 1}}},
		{5, api.Item{Kind: api.LBoot, Epoch: 1, Op: api.Op{Ch: 1, Client: 1}}},
		{6, api.Item{Kind: api.LBoot, Epoch: 1, Op: nop(1, 1)}},
		{7, api.Item{Kind: api.LBoot, Epoch: 1, Op: nop(0, 1)}},
		{1, api.Item{Kind: api.LEdit, Epoch: 1, Tag: -1, Op: del(0, 1, 1)}},
		{2, api.Item{Kind: api.LEdit, Tag: 4097, Op: del(-1, 1, 1)}},
		{2, api.Item{Kind: api.LEdit, Tag: -1, Op: del(0, 1, 1)}},
		{3, api.Item{Kind: api.LEdit, Op: api.Op{Kind: 3, Pos: -1}}},
		{4, api.Item{Kind: api.LEdit, Op: ins(4096, 0, 1, 1)}},
		{4, api.Item{Kind: api.LEdit, Op: api.Op{Pos: 1, Ch: 1, Client: 1, Seq: 1}}},
		{5, api.Item{Kind: api.LEdit, Op: ins(0, 127, 0, 1)}},
		{5, api.Item{Kind: api.LEdit, Op: api.Op{Kind: api.Delete, Ch: 32}}},
		{6, api.Item{Kind: api.LEdit, Op: del(0, 65, 0)}},
		{6, api.Item{Kind: api.LEdit, Op: del(0, 0, 0)}},
		{7, api.Item{Kind: api.LEdit, Op: del(0, 1, 0)}},
		{7, api.Item{Kind: api.LEdit, Op: del(0, 1, 65)}},
	} {
		wantNoEncodeItem(t, c.x, c.at, api.ErrField)
	}
}

func TestAnswersAreNewMemory(t *testing.T) {
	m := api.Msg{Kind: api.MEdit, Epoch: 1, Client: 2, Num: 1, Op: ins(0, 'A', 2, 1)}
	x := api.Item{Kind: api.LEdit, Tag: 258, Op: del(1, 64, 64)}
	for name, encode := range map[string]func() ([]byte, error){
		"Encode":     func() ([]byte, error) { return wire.Encode(m) },
		"EncodeItem": func() ([]byte, error) { return wire.EncodeItem(x) },
	} {
		one, _ := encode()
		two, _ := encode()
		kept := bytes.Clone(one)
		clear(two)
		_ = append(two, 7, 7, 7, 7)
		if three, _ := encode(); !bytes.Equal(one, kept) || !bytes.Equal(three, kept) {
			t.Errorf("P0.2: %s answers shared memory", name)
		}
	}
}

func TestArgumentsStay(t *testing.T) {
	room := bytes.Repeat([]byte{9}, 80)
	b := append(room[:0], octet.Seal([]byte{1, 2, 1, 1, 0x2C, 1})...)
	kept := bytes.Clone(room)
	for n := range len(b) + 1 {
		_, _ = wire.Decode(b[:n])
		_, _ = wire.DecodeItem(b[:n])
	}
	_, _ = wire.Decode(room)
	if !bytes.Equal(room, kept) {
		t.Errorf("P0.2: decoding changed its argument: % X, was % X", room, kept)
	}
}
