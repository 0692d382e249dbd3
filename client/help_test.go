package client_test

import (
	"bytes"
	"errors"
	"math/rand/v2"
	"reflect"
	"slices"
	"strconv"
	"strings"
	"testing"

	"jotter/api"
	"jotter/client"
	"jotter/doc"
	"jotter/octet"
	"jotter/wire"
)

// ins, del and nop make operations of an edit, as the chapter writes them: ins(0, 'x', 2, 1) is i0x(2,1).
func ins(pos int, ch byte, who, seq int) api.Op {
	return api.Op{Kind: api.Insert, Pos: pos, Ch: ch, Client: who, Seq: seq}
}

func del(pos, who, seq int) api.Op {
	return api.Op{Kind: api.Delete, Pos: pos, Client: who, Seq: seq}
}

func nop(who, seq int) api.Op { return api.Op{Kind: api.Nop, Client: who, Seq: seq} }

// The messages of a session of client 1; to gives one to another client.
func hello(epoch, have, first int) api.Msg {
	return api.Msg{Kind: api.MHello, Epoch: epoch, Client: 1, Have: have, First: first}
}

func edit(epoch, num, ack, tag int, op api.Op) api.Msg {
	return api.Msg{Kind: api.MEdit, Epoch: epoch, Client: 1, Num: num, Ack: ack, Tag: tag, Op: op}
}

func nod(epoch, ack int) api.Msg {
	return api.Msg{Kind: api.MNod, Epoch: epoch, Client: 1, Ack: ack}
}

func invite(epoch int) api.Msg { return api.Msg{Kind: api.MInvite, Epoch: epoch, Client: 1} }

func record(epoch, num, ack, rev int, op api.Op) api.Msg {
	return api.Msg{Kind: api.MRecord, Epoch: epoch, Client: 1, Num: num, Ack: ack, Rev: rev, Op: op}
}

func beat(epoch, ack int) api.Msg {
	return api.Msg{Kind: api.MBeat, Epoch: epoch, Client: 1, Ack: ack}
}

func to(m api.Msg, id int) api.Msg {
	m.Client = id
	return m
}

func ops(list ...api.Op) []api.Op { return list }

// newClient gives a client that New must make.
func newClient(t *testing.T, id int) *client.Client {
	t.Helper()
	c, e := client.New(id)
	if e != api.OK || c == nil {
		t.Fatalf("P11.1: New(%d) = %v, %d", id, c, e)
	}
	return c
}

// joined gives client 1 in epoch 1, open, with nothing made and nothing taken in.
func joined(t *testing.T) *client.Client {
	t.Helper()
	c := newClient(t, 1)
	get(t, "P11.7", c, invite(1))
	get(t, "P11.8", c, beat(1, 0))
	return c
}

// bytesOf gives a message's datagram.
func bytesOf(t *testing.T, m api.Msg) []byte {
	t.Helper()
	b, err := wire.Encode(m)
	if err != nil {
		t.Fatalf("%+v is no message: %v", m, err)
	}
	return b
}

// seen is all of a client that its faces tell without a change.
type seen struct {
	view    api.ClientView
	doc     []api.Elem
	pending []api.Edit
	forms   []api.Op
}

func see(c *client.Client) seen {
	return seen{c.View(), c.Doc(), c.Pending(), c.Forms()}
}

func (s seen) equal(o seen) bool {
	a, b := s.view, o.view
	return a.ID == b.ID && a.Epoch == b.Epoch && a.Open == b.Open && a.Made == b.Made && a.Have == b.Have &&
		slices.Equal(a.Doc, b.Doc) && slices.Equal(a.Pending, b.Pending) &&
		slices.Equal(s.doc, o.doc) && slices.Equal(s.pending, o.pending) && slices.Equal(s.forms, o.forms)
}

func (s seen) String() string {
	v := s.view
	return "ID " + strconv.Itoa(v.ID) + ", Epoch " + strconv.Itoa(v.Epoch) + ", Open " + strconv.FormatBool(v.Open) +
		", Made " + strconv.Itoa(v.Made) + ", Have " + strconv.Itoa(v.Have) + ", text " + strconv.Quote(brief(doc.Text(s.doc))) +
		", pending " + edits(s.pending) + ", forms " + words(s.forms)
}

// get gives a message to a client that must take it.
func get(t *testing.T, what string, c *client.Client, m api.Msg) {
	t.Helper()
	b := bytesOf(t, m)
	kept := bytes.Clone(b)
	if err := c.Receive(b); err != nil {
		t.Fatalf("%s: Receive(%+v): %v, want nil", what, m, err)
	}
	if !bytes.Equal(b, kept) {
		t.Fatalf("P0.2: Receive has changed its bytes")
	}
	clear(b)
}

// refuse gives a message to a client that must refuse it with that error, at place 0, and be as it was.
func refuse(t *testing.T, what string, c *client.Client, m api.Msg, want api.Errno) {
	t.Helper()
	refuseBytes(t, what, c, bytesOf(t, m), 0, want)
}

// refuseBytes gives bytes to a client that must refuse them with that Fault, and be as it was.
func refuseBytes(t *testing.T, what string, c *client.Client, b []byte, at int, want api.Errno) {
	t.Helper()
	before, kept := see(c), bytes.Clone(b)
	err := c.Receive(b)
	var fault *api.Fault
	if !errors.As(err, &fault) || fault.At != at || !errors.Is(err, want) {
		t.Fatalf("%s: Receive(%x): %v, want Fault{%d, %d}", what, b, err, at, want)
	}
	if after := see(c); !after.equal(before) || !bytes.Equal(b, kept) {
		t.Fatalf("%s: refused, and yet changed: %s, before %s", what, after, before)
	}
}

// wantTick ends the test unless a tick gives these messages, and the next tick the same bytes.
func wantTick(t *testing.T, what string, c *client.Client, want ...api.Msg) {
	t.Helper()
	before := see(c)
	first := c.Tick()
	wantSaid(t, what, first, want...)
	wantSaid(t, what+": again", c.Tick(), want...)
	if after := see(c); !after.equal(before) {
		t.Fatalf("P11.4: a tick changes %s to %s", before, after)
	}
}

// wantSaid ends the test unless these are the datagrams of these messages.
func wantSaid(t *testing.T, what string, said [][]byte, want ...api.Msg) {
	t.Helper()
	var datagrams [][]byte
	for _, m := range want {
		datagrams = append(datagrams, bytesOf(t, m))
	}
	if !slices.EqualFunc(said, datagrams, bytes.Equal) {
		t.Fatalf("%s: P11.4: a tick gives %x, want %x: %+v", what, said, datagrams, want)
	}
}

// wantDoc ends the test unless the client has this text, this Have, and these forms; Pending must be as long.
func wantDoc(t *testing.T, what string, c *client.Client, text string, have int, forms ...api.Op) {
	t.Helper()
	s := see(c)
	if doc.Text(s.doc) != text || s.view.Have != have || !slices.Equal(s.forms, forms) || len(s.pending) != len(forms) {
		t.Fatalf("%s: %s, want the text %q, Have %d, forms %s", what, s, text, have, words(forms))
	}
	wantWhole(t, what, c)
}

// wantWhole ends the test if two faces tell two things, or Pending and Forms are not the last edits, one for one.
func wantWhole(t *testing.T, what string, c *client.Client) {
	t.Helper()
	s := see(c)
	if !doc.Equal(s.doc, s.view.Doc) || !slices.Equal(s.pending, s.view.Pending) || len(s.pending) != len(s.forms) {
		t.Fatalf("%s: P11.10: the faces tell two things: %s, View %+v", what, s, s.view)
	}
	for i, x := range s.pending {
		seq := s.view.Made - len(s.pending) + 1 + i
		if x.Op.Client != s.view.ID || x.Op.Seq != seq || s.forms[i].Client != s.view.ID || s.forms[i].Seq != seq {
			t.Fatalf("%s: the pending edit %d has not the Seq %d: %s", what, i, seq, s)
		}
	}
}

// wantSession ends the test unless View tells these.
func wantSession(t *testing.T, what string, c *client.Client, epoch int, open bool, made, have int) {
	t.Helper()
	v := c.View()
	if v.Epoch != epoch || v.Open != open || v.Made != made || v.Have != have {
		t.Fatalf("%s: Epoch %d, Open %t, Made %d, Have %d, want %d, %t, %d, %d", what, v.Epoch, v.Open, v.Made, v.Have, epoch, open, made, have)
	}
}

// wantInsert and wantDelete end the test unless the client makes the edit, with that tag.
func wantInsert(t *testing.T, what string, c *client.Client, pos int, ch byte, tag int) {
	t.Helper()
	before := see(c)
	x, e := c.Insert(pos, int(ch))
	op := ins(pos, ch, before.view.ID, before.view.Made+1)
	wantMade(t, what, c, x, e, api.Edit{Tag: tag, Op: op}, before)
	want := slices.Insert(before.doc, pos, api.Elem{Ch: ch, Client: op.Client, Seq: op.Seq})
	if !doc.Equal(c.Doc(), want) {
		t.Fatalf("%s: P11.2: Insert(%d, %q): the text %q, want %q", what, pos, ch, brief(doc.Text(c.Doc())), brief(doc.Text(want)))
	}
}

func wantDelete(t *testing.T, what string, c *client.Client, pos, tag int) {
	t.Helper()
	before := see(c)
	x, e := c.Delete(pos)
	wantMade(t, what, c, x, e, api.Edit{Tag: tag, Op: del(pos, before.view.ID, before.view.Made+1)}, before)
	if want := slices.Delete(before.doc, pos, pos+1); !doc.Equal(c.Doc(), want) {
		t.Fatalf("%s: P11.3: Delete(%d): the text %q, want %q", what, pos, brief(doc.Text(c.Doc())), brief(doc.Text(want)))
	}
}

// wantMade ends the test unless the edit was answered, and is the last one now, with all else as it was.
func wantMade(t *testing.T, what string, c *client.Client, got api.Edit, e api.Errno, want api.Edit, before seen) {
	t.Helper()
	if got != want || e != api.OK {
		t.Fatalf("%s: the edit %+v, %d, want %+v", what, got, e, want)
	}
	after := see(c)
	if !slices.Equal(after.pending, append(before.pending, want)) || !slices.Equal(after.forms, append(before.forms, want.Op)) {
		t.Fatalf("%s: %s, before %s", what, after, before)
	}
	wantSession(t, what, c, before.view.Epoch, before.view.Open, before.view.Made+1, before.view.Have)
	wantWhole(t, what, c)
}

// wantNoEdit ends the test unless the answer was that error and the zero edit, and the client is as it was.
func wantNoEdit(t *testing.T, what string, c *client.Client, before seen, got api.Edit, e, want api.Errno) {
	t.Helper()
	if got != (api.Edit{}) || e != want {
		t.Fatalf("%s: %+v, %d, want the zero edit, %d", what, got, e, want)
	}
	if after := see(c); !after.equal(before) {
		t.Fatalf("%s: refused, and yet changed: %s, before %s", what, after, before)
	}
}

func wantNoInsert(t *testing.T, what string, c *client.Client, pos, ch int, want api.Errno) {
	t.Helper()
	before := see(c)
	x, e := c.Insert(pos, ch)
	wantNoEdit(t, what+": Insert("+strconv.Itoa(pos)+", "+strconv.Itoa(ch)+")", c, before, x, e, want)
}

func wantNoDelete(t *testing.T, what string, c *client.Client, pos int, want api.Errno) {
	t.Helper()
	before := see(c)
	x, e := c.Delete(pos)
	wantNoEdit(t, what+": Delete("+strconv.Itoa(pos)+")", c, before, x, e, want)
}

// word gives an operation as the chapter writes it.
func word(op api.Op) string {
	who := "(" + strconv.Itoa(op.Client) + "," + strconv.Itoa(op.Seq) + ")"
	switch op.Kind {
	case api.Insert:
		return "i" + strconv.Itoa(op.Pos) + strconv.Quote(string(rune(op.Ch))) + who
	case api.Delete:
		return "d" + strconv.Itoa(op.Pos) + who
	}
	return "n" + who
}

func words(list []api.Op) string {
	all := make([]string, len(list))
	for i, op := range list {
		all[i] = word(op)
	}
	return brief("[" + strings.Join(all, " ") + "]")
}

func edits(list []api.Edit) string {
	all := make([]string, len(list))
	for i, x := range list {
		all[i] = strconv.Itoa(x.Tag) + ":" + word(x.Op)
	}
	return brief("[" + strings.Join(all, " ") + "]")
}

// same tells whether two errors are the same: both nil, or of one type with one place and one number.
func same(a, b error) bool { return reflect.DeepEqual(a, b) }

// brief gives the beginning of a text, because some are long.
func brief(s string) string { return s[:min(len(s), 300)] }

// dice gives numbers that look mixed, the same at every run.
func dice(seed int) *rand.Rand { return rand.New(rand.NewPCG(uint64(seed), 11)) }

// sealed gives a body with its sum behind it.
func sealed(body ...byte) []byte { return octet.Seal(body) }
