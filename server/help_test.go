package server_test

import (
	"bytes"
	"encoding/binary"
	"hash/crc32"
	"math/rand/v2"
	"reflect"
	"slices"
	"strconv"
	"strings"
	"testing"

	"jotter/api"
	"jotter/disk"
	"jotter/server"
	"jotter/wire"
)

// ins, del and nop make operations of an edit, as the chapter writes them: ins(0, 'x', 2, 1) is i0x(2,1).
func ins(pos int, ch byte, who, seq int) api.Op {
	return api.Op{Kind: api.Insert, Pos: pos, Ch: ch, Client: who, Seq: seq}
}

func del(pos, who, seq int) api.Op {
	return api.Op{Kind: api.Delete, Pos: pos, Client: who, Seq: seq}
}

func nop(who, seq int) api.Op { return api.Op{Kind: api.Nop, Client: who, Seq: seq} }

// The messages of epoch 1; of gives one of another epoch.
func hello(who, have, first int) api.Msg {
	return api.Msg{Kind: api.MHello, Epoch: 1, Client: who, Have: have, First: first}
}

// edit is of the client that its operation names.
func edit(num, ack, tag int, op api.Op) api.Msg {
	return api.Msg{Kind: api.MEdit, Epoch: 1, Client: op.Client, Num: num, Ack: ack, Tag: tag, Op: op}
}

func nod(who, ack int) api.Msg { return api.Msg{Kind: api.MNod, Epoch: 1, Client: who, Ack: ack} }

func invite(who int) api.Msg { return api.Msg{Kind: api.MInvite, Epoch: 1, Client: who} }

func record(who, num, ack, rev int, op api.Op) api.Msg {
	return api.Msg{Kind: api.MRecord, Epoch: 1, Client: who, Num: num, Ack: ack, Rev: rev, Op: op}
}

func beat(who, ack int) api.Msg { return api.Msg{Kind: api.MBeat, Epoch: 1, Client: who, Ack: ack} }

func of(epoch int, m api.Msg) api.Msg {
	m.Epoch = epoch
	return m
}

// bytesOf gives a message's datagram.
func bytesOf(t *testing.T, m api.Msg) []byte {
	t.Helper()
	b, err := wire.Encode(m)
	if err != nil {
		t.Fatalf("%+v is no message: %v", m, err)
	}
	return b
}

// sealed gives a body with its sum behind it, by other means than the program's.
func sealed(body ...byte) []byte {
	return binary.LittleEndian.AppendUint32(slices.Clone(body), crc32.ChecksumIEEE(body))
}

// imageOf lays payloads on a disk as layer 3's table says it, by other means than the program's.
func imageOf(payloads ...[]byte) []byte {
	var image []byte
	for _, p := range payloads {
		b := binary.BigEndian.AppendUint16(nil, uint16(len(p)))
		b = binary.BigEndian.AppendUint16(b, uint16(65535-len(p)))
		image = append(image, sealed(append(b, p...)...)...)
	}
	return image
}

func bootPayload(epoch int) []byte { return []byte{1, byte(epoch)} }

func editPayload(tag int, op api.Op) []byte {
	b := binary.BigEndian.AppendUint16([]byte{2}, uint16(tag))
	b = binary.BigEndian.AppendUint16(append(b, byte(op.Kind)), uint16(op.Pos))
	return append(b, op.Ch, byte(op.Client), byte(op.Seq))
}

// diskOf gives a disk with these bytes, the first so many of them synced.
func diskOf(t *testing.T, image []byte, synced int) *disk.Disk {
	t.Helper()
	d, e := disk.From(image[:synced])
	if e != api.OK || d.Append(image[synced:]) != api.OK {
		t.Fatalf("no disk of %d bytes", len(image))
	}
	return d
}

// start gives a server that must be there, and cut nothing.
func start(t *testing.T, d *disk.Disk, clients int) *server.Server {
	t.Helper()
	s, err := server.Start(d, clients)
	if s == nil || err != nil {
		t.Fatalf("P13.1: Start(a disk of %d bytes, %d): %v, %v", d.Size(), clients, s, err)
	}
	return s
}

// example3 gives the server of two, and its disk, as they are at the end of the chapter's example 3.
func example3(t *testing.T) (*server.Server, *disk.Disk) {
	t.Helper()
	d := disk.New()
	s := start(t, d, 2)
	get(t, "example 2", s, hello(1, 0, 1))
	get(t, "example 3", s, edit(1, 0, 0, ins(0, 'a', 1, 1)))
	wantTick(t, "example 3", s, record(1, 1, 1, 1, ins(0, 'a', 1, 1)), invite(2))
	return s, d
}

// seen is all that a server tells without a change.
type seen struct {
	view  api.ServerView
	edits []api.Edit
}

func see(s *server.Server) seen { return seen{s.View(), s.Edits()} }

func (a seen) equal(b seen) bool {
	x, y := a.view, b.view
	return x.Up == y.Up && x.Epoch == y.Epoch && x.Revs == y.Revs && x.Synced == y.Synced &&
		slices.Equal(x.Doc, y.Doc) && slices.Equal(x.Told, y.Told) && slices.Equal(x.Links, y.Links) && slices.Equal(a.edits, b.edits)
}

func (a seen) String() string {
	v := a.view
	var b strings.Builder
	b.WriteString("Up " + strconv.FormatBool(v.Up) + ", Epoch " + strconv.Itoa(v.Epoch) + ", Revs " + strconv.Itoa(v.Revs) + ", Synced " + strconv.Itoa(v.Synced) +
		", Doc " + textWord(v.Doc) + ", Told " + textWord(v.Told) + ", " + words(a.edits))
	for i, l := range v.Links {
		b.WriteString("; client " + strconv.Itoa(i+1) + ": " + linkWord(l))
	}
	return brief(b.String())
}

func wantSeen(t *testing.T, what string, got, want seen) {
	t.Helper()
	if !got.equal(want) {
		t.Fatalf("%s: %s\nwant %s", what, got, want)
	}
}

// get gives a message to a server that must take it.
func get(t *testing.T, what string, s *server.Server, m api.Msg) {
	t.Helper()
	b := bytesOf(t, m)
	kept := bytes.Clone(b)
	if err := s.Receive(b); err != nil {
		t.Fatalf("%s: Receive(%s): %v, want nil", what, msgWord(m), err)
	}
	if !bytes.Equal(b, kept) {
		t.Fatalf("P0.2: Receive has changed its bytes")
	}
	clear(b)
}

// getIdle gives a message that must be taken, and change nothing that is seen.
func getIdle(t *testing.T, what string, s *server.Server, m api.Msg) {
	t.Helper()
	before := see(s)
	get(t, what, s, m)
	wantSeen(t, what+": "+msgWord(m)+" changes nothing", see(s), before)
}

// refuse gives a message to a server that must refuse it with that error, at place 0, and be as it was.
func refuse(t *testing.T, what string, s *server.Server, m api.Msg, want api.Errno) {
	t.Helper()
	before := see(s)
	wantError(t, what+": Receive("+msgWord(m)+")", s.Receive(bytesOf(t, m)), api.Wrap(0, want))
	wantSeen(t, what+": refused", see(s), before)
}

// wantError ends the test unless an error is just that one, of its very type.
func wantError(t *testing.T, what string, got, want error) {
	t.Helper()
	if !reflect.DeepEqual(got, want) {
		t.Fatalf("%s: the error %v, want %v", what, got, want)
	}
}

// wantTick ends the test unless a tick gives the datagrams of these messages, the next tick the same, and the sessions' Acks stay.
func wantTick(t *testing.T, what string, s *server.Server, want ...api.Msg) {
	t.Helper()
	before := see(s)
	wantSaid(t, what, s.Tick(), want...)
	after := see(s)
	wantTicked(t, what, before, after)
	wantSaid(t, what+": again", s.Tick(), want...)
	wantSeen(t, what+": P13.2: a second tick", see(s), after)
}

// wantTicked ends the test if a tick changed more than what is synced and what counts as sent.
func wantTicked(t *testing.T, what string, before, after seen) {
	t.Helper()
	want := seen{before.view, before.edits}
	want.view.Synced, want.view.Told = before.view.Revs, before.view.Doc
	want.view.Links = slices.Clone(before.view.Links)
	for i := range want.view.Links {
		if want.view.Links[i].Open && after.view.Links[i].Sent >= before.view.Links[i].Sent {
			want.view.Links[i].Sent = after.view.Links[i].Sent
		}
	}
	wantSeen(t, what+": P13.2: behind a tick", after, want)
}

// wantSaid ends the test unless these are the datagrams of these messages, from the server to their clients.
func wantSaid(t *testing.T, what string, said []api.Datagram, want ...api.Msg) {
	t.Helper()
	var datagrams []api.Datagram
	for _, m := range want {
		datagrams = append(datagrams, api.Datagram{From: 0, To: m.Client, Bytes: bytesOf(t, m)})
	}
	if !slices.EqualFunc(said, datagrams, sameDatagram) {
		t.Fatalf("%s: P13.2: a tick gives %s\nwant %s", what, saidWord(said), saidWord(datagrams))
	}
}

func sameDatagram(a, b api.Datagram) bool {
	return a.From == b.From && a.To == b.To && a.Spoilt == b.Spoilt && bytes.Equal(a.Bytes, b.Bytes)
}

// wantState ends the test unless View tells these numbers and texts, and Edits is as long.
func wantState(t *testing.T, what string, s *server.Server, revs, synced int, text, told string) {
	t.Helper()
	x := see(s)
	v := x.view
	if !v.Up || v.Revs != revs || v.Synced != synced || plain(v.Doc) != text || plain(v.Told) != told || len(x.edits) != revs {
		t.Fatalf("%s: P13.7: %s\nwant Revs %d, Synced %d, Doc %q, Told %q", what, x, revs, synced, text, told)
	}
}

// wantLink ends the test unless this is what is seen of the client's session.
func wantLink(t *testing.T, what string, s *server.Server, who int, want api.LinkView) {
	t.Helper()
	if got := s.View().Links[who-1]; got != want {
		t.Fatalf("%s: P13.7: the session of client %d: %s, want %s", what, who, linkWord(got), linkWord(want))
	}
}

// plain gives a text's characters alone.
func plain(text []api.Elem) string {
	b := make([]byte, len(text))
	for i, x := range text {
		b[i] = x.Ch
	}
	return string(b)
}

// textWord gives a text with the makers of its characters.
func textWord(text []api.Elem) string {
	var b strings.Builder
	for _, x := range text {
		b.WriteString(string(rune(x.Ch)) + strconv.Itoa(x.Client) + "." + strconv.Itoa(x.Seq) + " ")
	}
	return brief("[" + b.String() + "]")
}

// opWord gives an operation as the chapter writes it.
func opWord(op api.Op) string {
	who := "(" + strconv.Itoa(op.Client) + "," + strconv.Itoa(op.Seq) + ")"
	switch op.Kind {
	case api.Insert:
		return "i" + strconv.Itoa(op.Pos) + strconv.Quote(string(rune(op.Ch))) + who
	case api.Delete:
		return "d" + strconv.Itoa(op.Pos) + who
	}
	return "n" + who
}

func words(list []api.Edit) string {
	all := make([]string, len(list))
	for i, e := range list {
		all[i] = strconv.Itoa(e.Tag) + ":" + opWord(e.Op)
	}
	return brief("[" + strings.Join(all, " ") + "]")
}

func linkWord(l api.LinkView) string {
	if l == (api.LinkView{}) {
		return "closed"
	}
	return "open " + strconv.FormatBool(l.Open) + " Base " + strconv.Itoa(l.Base) + " From " + strconv.Itoa(l.From) +
		" Sent " + strconv.Itoa(l.Sent) + " Got " + strconv.Itoa(l.Got) + " Cum " + strconv.Itoa(l.Cum)
}

// msgWord gives a message by the fields that its kind names.
func msgWord(m api.Msg) string {
	head := "(Epoch " + strconv.Itoa(m.Epoch) + ", Client " + strconv.Itoa(m.Client)
	link := ", Num " + strconv.Itoa(m.Num) + ", Ack " + strconv.Itoa(m.Ack)
	switch m.Kind {
	case api.MHello:
		return "Hello" + head + ", Have " + strconv.Itoa(m.Have) + ", First " + strconv.Itoa(m.First) + ")"
	case api.MEdit:
		return "Edit" + head + link + ", Tag " + strconv.Itoa(m.Tag) + ", " + opWord(m.Op) + ")"
	case api.MNod:
		return "Nod" + head + ", Ack " + strconv.Itoa(m.Ack) + ")"
	case api.MInvite:
		return "Invite" + head + ")"
	case api.MRecord:
		return "Record" + head + link + ", Rev " + strconv.Itoa(m.Rev) + ", " + opWord(m.Op) + ")"
	}
	return "Beat" + head + ", Ack " + strconv.Itoa(m.Ack) + ")"
}

func saidWord(list []api.Datagram) string {
	all := make([]string, len(list))
	for i, g := range list {
		all[i] = strconv.Itoa(g.From) + ">" + strconv.Itoa(g.To) + " "
		if m, err := wire.Decode(g.Bytes); err == nil {
			all[i] += msgWord(m)
		} else {
			all[i] += err.Error()
		}
	}
	return brief(strings.Join(all, " "))
}

// brief gives the beginning of a text, because some are long.
func brief(s string) string { return s[:min(len(s), 1500)] }

// dice gives numbers that look mixed, the same at every run.
func dice(seed int) *rand.Rand { return rand.New(rand.NewPCG(uint64(seed), 13)) }
