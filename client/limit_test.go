package client_test

import (
	"math/rand/v2"
	"slices"
	"testing"

	"jotter/api"
	"jotter/client"
	"jotter/doc"
)

// TestTheWholeLogInOneEpoch: all that 64 clients can make comes to client 1 on one link, its own edits among it.
func TestTheWholeLogInOneEpoch(t *testing.T) {
	for seed := range 3 {
		c, f := joined(t), newFeed(seed, seed == 0)
		for f.rev < api.MaxLog {
			f.step(t, c)
			if f.rev%512 == 0 {
				wantFeed(t, c, f)
			}
		}
		wantFeed(t, c, f)
		wantSession(t, "P11.9", c, 1, true, 64, 4096)
		get(t, "P11.8", c, beat(1, 0))
		if seed == 0 && len(c.Doc()) != api.MaxDoc {
			t.Fatalf("P11.9: a text of %d, want %d", len(c.Doc()), api.MaxDoc)
		}
		wantEndOfTheLog(t, c)
	}
}

// wantEndOfTheLog ends the test unless a client that has all records answers as the limits say.
func wantEndOfTheLog(t *testing.T, c *client.Client) {
	t.Helper()
	for range api.MaxEdits / api.Window {
		c.Tick()
		get(t, "P11.8", c, beat(1, min(64, ackable(t, c))))
	}
	wantTick(t, "P11.4: the last number", c, nod(1, 4096))
	get(t, "P11.9: a duplicate", c, record(1, 4096, 64, 4096, nop(9, 9)))
	wantNoInsert(t, "P11.2", c, 0, 'a', api.ErrQuota)
	get(t, "P11.7", c, invite(255))
	wantTick(t, "P11.4: the greatest numbers", c, hello(255, 4096, 65))
	refuse(t, "P11.5: no record is left", c, record(255, 1, 0, 1, nop(2, 1)), api.ErrRev)
	refuse(t, "P11.5: no record is left", c, record(255, 1, 0, 4096, nop(2, 1)), api.ErrRev)
	get(t, "P11.8", c, beat(255, 0))
	wantTick(t, "P11.4", c, nod(255, 0))
}

// ackable tells the greatest Ack that the client takes.
func ackable(t *testing.T, c *client.Client) int {
	t.Helper()
	for ack := 64; ack > 0; ack-- {
		if c.Receive(bytesOf(t, beat(1, ack))) == nil {
			return ack
		}
	}
	return 0
}

// feed tells client 1 the records of a log that it makes up as it goes.
type feed struct {
	r       *rand.Rand
	grow    bool // nothing but inserts
	rev     int
	log     []api.Op
	length  int // of the text of the records
	seqs    [api.MaxClients + 1]int
	open    []int // makers with edits left
	ownMade int
}

func newFeed(seed int, grow bool) *feed {
	f := &feed{r: dice(seed), grow: grow}
	for who := 2; who <= api.MaxClients; who++ {
		f.open = append(f.open, who)
	}
	return f
}

// step makes an edit, tells one back, or tells another's.
func (f *feed) step(t *testing.T, c *client.Client) {
	t.Helper()
	pending := len(c.Pending())
	switch {
	case f.ownMade < api.MaxEdits && (f.r.IntN(30) == 0 || len(f.open) == 0):
		f.ownMade++
		f.makeOwn(t, c)
	case pending > 0 && (f.r.IntN(60) == 0 || len(f.open) == 0):
		f.tell(t, c, c.Forms()[0])
	case len(f.open) > 0:
		f.tell(t, c, f.another())
	}
}

func (f *feed) makeOwn(t *testing.T, c *client.Client) {
	t.Helper()
	if n := len(c.Doc()); f.grow || n == 0 || f.r.IntN(2) == 0 {
		wantInsert(t, "P11.2", c, f.r.IntN(n+1), 'a', f.rev)
	} else {
		wantDelete(t, "P11.3", c, f.r.IntN(n), f.rev)
	}
}

// another gives the next record of another maker, which fits the text of the records.
func (f *feed) another() api.Op {
	i := f.r.IntN(len(f.open))
	who := f.open[i]
	f.seqs[who]++
	if f.seqs[who] == api.MaxEdits {
		f.open = slices.Delete(f.open, i, i+1)
	}
	switch k := f.r.IntN(8); {
	case f.grow || k < 4:
		return ins(f.r.IntN(f.length+1), 'x', who, f.seqs[who])
	case k < 7 && f.length > 0:
		return del(f.r.IntN(f.length), who, f.seqs[who])
	}
	return nop(who, f.seqs[who])
}

func (f *feed) tell(t *testing.T, c *client.Client, op api.Op) {
	t.Helper()
	f.rev++
	f.log = append(f.log, op)
	switch op.Kind {
	case api.Insert:
		f.length++
	case api.Delete:
		f.length--
	}
	get(t, "P11.9", c, record(1, f.rev, 0, f.rev, op))
}

// wantFeed ends the test unless the client's text is that of the records with its forms applied.
func wantFeed(t *testing.T, c *client.Client, f *feed) {
	t.Helper()
	want, n, e := doc.Replay(append(slices.Clone(f.log), c.Forms()...)...)
	if e != api.OK || !doc.Equal(c.Doc(), want) || c.View().Have != f.rev {
		t.Fatalf("the text of %d records and the forms: %q (%d applied, error %d), Doc %q", f.rev, brief(doc.Text(want)), n, e, brief(doc.Text(c.Doc())))
	}
	wantWhole(t, "P11.10", c)
}

// TestTheFullTextBeforeAnyOwnIsTold: 64 edits wait at the text's beginning while the text grows to its limit behind them.
func TestTheFullTextBeforeAnyOwnIsTold(t *testing.T) {
	c, rev := joined(t), 0
	for who := 2; who <= api.MaxClients; who++ {
		for seq := 1; seq <= api.MaxEdits; seq++ {
			rev++
			get(t, "P11.6: at the end", c, record(1, rev, 0, rev, ins(rev-1, 'x', who, seq)))
			for n := 0; rev == 1 && n < api.MaxEdits; n++ {
				wantInsert(t, "P11.2", c, n, 'a', 1)
			}
			if rev%500 == 0 || rev >= 4028 && rev < 4032 {
				wantRoomAtTheEnd(t, c, rev, who+seq/64, seq%64+1)
			}
		}
	}
	if n := len(c.Doc()); n != api.MaxDoc {
		t.Fatalf("P11.9: a text of %d, want %d", n, api.MaxDoc)
	}
	for n := range api.MaxEdits {
		rev++
		get(t, "P11.9: told back", c, record(1, rev, 0, rev, ins(n, 'a', 1, n+1)))
	}
	wantSession(t, "P11.9", c, 1, true, 64, 4096)
}

// wantRoomAtTheEnd ends the test unless the edit that is next finds the text's end where it is, behind all forms.
func wantRoomAtTheEnd(t *testing.T, c *client.Client, length, who, seq int) {
	t.Helper()
	num := length + 1
	refuse(t, "P11.6: one beyond the end", c, record(1, num, 0, num, ins(length+1, 'x', who, seq)), api.ErrStrange)
	refuse(t, "P11.6: at the end there is nothing", c, record(1, num, 0, num, del(length, who, seq)), api.ErrStrange)
	refuse(t, "P11.6: past 64 forms a place that no text has", c, record(1, num, 0, num, del(4095, who, seq)), api.ErrStrange)
	refuse(t, "P11.6: past 64 forms a place that no text has", c, record(1, num, 0, num, ins(4095, 'x', who, seq)), api.ErrStrange)
}

// TestAnswersAreNewMemory: what is written into an answer, or put behind it, changes no later answer and no other list.
func TestAnswersAreNewMemory(t *testing.T) {
	c := example(t, 4)
	wantDelete(t, "P11.3", c, 2, 1)
	before, said := see(c), c.Tick()
	for range 3 {
		for range 2 {
			spoilElems(c.Doc())
			spoilElems(c.View().Doc)
			spoilEdits(c.Pending())
			spoilEdits(c.View().Pending)
			spoilOps(c.Forms())
			spoilBytes(c.Tick())
		}
		v := c.View()
		spoilElems(v.Doc)
		if !slices.Equal(v.Pending, before.pending) {
			t.Fatalf("P0.2: the lists of one View share memory")
		}
		if after := see(c); !after.equal(before) {
			t.Fatalf("P11.10: %s, before %s", after, before)
		}
		if got := c.Tick(); !slices.EqualFunc(got, said, slices.Equal) {
			t.Fatalf("P11.10: a tick gives %x, before %x", got, said)
		}
	}
	get(t, "P11.9", c, record(1, 2, 0, 2, ins(1, 'a', 1, 1)))
	wantDoc(t, "P11.10: and goes on as before", c, "xa", 2, ins(2, 'b', 1, 2), del(2, 1, 3))
}

func spoilElems(list []api.Elem) { spoil(list, api.Elem{Ch: '?', Client: 9, Seq: 9}) }

func spoilEdits(list []api.Edit) { spoil(list, api.Edit{Tag: 9}) }

func spoilOps(list []api.Op) { spoil(list, api.Op{Kind: 9}) }

// spoil writes over a list where it lies, and over its spare room: as far as an append could.
func spoil[T any](list []T, wrong T) {
	list = list[:cap(list)]
	for i := range list {
		list[i] = wrong
	}
}

// spoilBytes writes over each datagram and its spare room; the one behind it must not change by that.
func spoilBytes(list [][]byte) {
	for i, b := range list {
		b = append(b, 9)
		clear(b[:cap(b)])
		clear(list[i][:cap(list[i])])
	}
	list = append(list, nil)
	clear(list[:cap(list)])
}

// TestDatagramsOfATickShareNothing: one that is written over leaves the others as they were.
func TestDatagramsOfATickShareNothing(t *testing.T) {
	c := joined(t)
	var want []api.Msg
	for n := range 8 {
		wantInsert(t, "P11.2", c, n, 'a', 0)
		want = append(want, edit(1, n+1, 0, 0, ins(n, 'a', 1, n+1)))
	}
	for i := range want {
		said := c.Tick()
		kept := slices.Clone(said[i])
		spoilBytes([][]byte{said[i]})
		said[i] = kept
		wantSaid(t, "P0.2", said, want...)
	}
}

// TestClientsShareNothing: what is done to one is not seen in another of the same ID.
func TestClientsShareNothing(t *testing.T) {
	still, busy := example(t, 4), example(t, 4)
	before, said := see(still), still.Tick()
	wantInsert(t, "P11.1", busy, 0, 'q', 1)
	get(t, "P11.1", busy, record(1, 2, 1, 2, ins(1, 'a', 1, 1)))
	get(t, "P11.1", busy, record(1, 3, 1, 3, ins(0, 'z', 2, 2)))
	get(t, "P11.1", busy, invite(9))
	if after := see(still); !after.equal(before) || !slices.EqualFunc(still.Tick(), said, slices.Equal) {
		t.Fatalf("P11.1: %s, before %s", after, before)
	}
	get(t, "P11.1: the maker's Seqs too", still, record(1, 2, 0, 2, ins(0, 'z', 2, 2)))
}

// TestAskingChangesNothing: Doc, Pending, Forms and View between all calls leave the answers as they are without them.
func TestAskingChangesNothing(t *testing.T) {
	quiet, asked := example(t, 3), example(t, 3)
	for _, m := range []api.Msg{record(1, 1, 0, 1, ins(0, 'x', 2, 1)), record(1, 3, 1, 3, del(0, 2, 2)), record(1, 2, 2, 2, ins(1, 'a', 1, 1)), invite(2), beat(2, 0)} {
		for range 3 {
			see(asked)
		}
		if !same(quiet.Receive(bytesOf(t, m)), asked.Receive(bytesOf(t, m))) || !slices.EqualFunc(quiet.Tick(), asked.Tick(), slices.Equal) {
			t.Fatalf("P11.10: asking changes what %+v comes to", m)
		}
	}
	if !see(quiet).equal(see(asked)) {
		t.Fatalf("P11.10: %s, and without asking %s", see(asked), see(quiet))
	}
}
