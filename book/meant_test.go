package book_test

import (
	"math/rand/v2"
	"slices"
	"testing"

	"jotter/api"
	"jotter/book"
	"jotter/client"
	"jotter/disk"
	"jotter/doc"
	"jotter/wire"
)

// wantOnce ends the test unless each client's Seqs rise by one, its tags never fall, and each is below the edit's own number.
func wantOnce(t *testing.T, b *book.Book) {
	t.Helper()
	var seqs, tags [api.MaxClients + 1]int
	for i, e := range b.Edits() {
		who := e.Op.Client
		if e.Op.Seq != seqs[who]+1 || e.Tag < tags[who] || e.Tag >= i+1 {
			t.Fatalf("P12.9: record %d is %s, and its client's last has the Seq %d and the tag %d", i+1, word(e), seqs[who], tags[who])
		}
		seqs[who], tags[who] = e.Op.Seq, e.Tag
	}
}

// seenAll tells whether all edits of a record's client ahead of it are among the records that its tag covers.
func seenAll(edits []api.Edit, at int) bool {
	for i := edits[at].Tag; i < at; i++ {
		if edits[i].Op.Client == edits[at].Op.Client {
			return false
		}
	}
	return true
}

// wantMeant ends the test unless a log does what its clients meant. It tells how many pairs of inserts at one place there were.
func wantMeant(t *testing.T, b *book.Book) int {
	t.Helper()
	edits, pairs := b.Edits(), 0
	for i, e := range edits {
		if op, _ := b.Done(i + 1); e.Tag == i && op != e.Op {
			t.Fatalf("P12.10: record %d, whose client had seen everything, is %s and was done as %s", i+1, word(e), opWord(op))
		}
		for k := i + 1; k < len(edits); k++ {
			other := edits[k]
			if e.Op.Kind == api.Insert && other.Op.Kind == api.Insert && e.Op.Pos == other.Op.Pos && e.Tag == other.Tag &&
				e.Op.Client != other.Op.Client && seenAll(edits, i) && seenAll(edits, k) {
				pairs++
				wantLeft(t, b, i+1, k+1)
			}
		}
	}
	return pairs
}

// wantLeft ends the test unless the element of one record stands left of another's, wherever both stand.
func wantLeft(t *testing.T, b *book.Book, rev, other int) {
	t.Helper()
	x, _ := b.Edit(rev)
	y, _ := b.Edit(other)
	for revs := other; revs <= b.Revs(); revs++ {
		text, _ := b.Doc(revs)
		left, right := doc.Find(text, x.Op.Client, x.Op.Seq), doc.Find(text, y.Op.Client, y.Op.Seq)
		if left >= 0 && right >= 0 && left > right {
			t.Fatalf("P12.10: in the text behind %d records, %q, the record %d stands right of %d", revs, doc.Text(text), rev, other)
		}
	}
}

func TestOnceAndMeant(t *testing.T) {
	pairs := 0
	for seed := range 150 {
		p := played(t, dice(seed), 2+seed%6, 60)
		wantOnce(t, p.b)
		pairs += wantMeant(t, p.b)
	}
	if pairs < 300 {
		t.Fatalf("%d pairs of inserts at one place: they tell too little", pairs)
	}
}

// TestOnePlaceOfOneText: four clients insert at each place of a text, and the log takes them in every order, with others' edits in between.
func TestOnePlaceOfOneText(t *testing.T) {
	orders := [][]int{}
	for n := range 256 {
		order := []int{n % 4, n / 4 % 4, n / 16 % 4, n / 64}
		if sorted := slices.Sorted(slices.Values(order)); slices.Equal(sorted, []int{0, 1, 2, 3}) {
			orders = append(orders, order)
		}
	}
	if len(orders) != 24 {
		t.Fatalf("%d orders, want 24", len(orders))
	}
	for _, order := range orders {
		for place := range 4 {
			b, _ := booted(t)
			for n := range 3 {
				wantAdd(t, b, edit(n, ins(n, 'a'+byte(n), 9, n+1)), n+1, ins(n, 'a'+byte(n), 9, n+1), "abc"[:n+1])
			}
			between := []api.Edit{edit(3, ins(place, '-', 10, 1)), edit(2, del(0, 11, 1)), edit(3, del(2, 9, 4)), edit(1, ins(1, '+', 12, 1))}
			for i, who := range order {
				for _, e := range []api.Edit{edit(3, ins(place, '1'+byte(who), 1+who, 1)), between[i]} {
					if _, _, bad := b.Add(e); bad != api.OK {
						t.Fatalf("P12.2: Add(%s) = %d", word(e), bad)
					}
				}
			}
			if pairs := wantMeant(t, b); pairs != 11 { // of the four, of each with the '-' at the same place, and of 'b' with the '+'
				t.Fatalf("P12.10: %d pairs, want 11", pairs)
			}
		}
	}
}

// TestWhoHasSeenEverything: whatever is made by one who has seen the whole log is done as it was made.
func TestWhoHasSeenEverything(t *testing.T) {
	for seed := range 20 {
		r := dice(seed)
		b, _ := booted(t)
		var seqs [api.MaxClients + 1]int
		for rev := 1; rev <= 150; rev++ {
			text, _ := b.Doc(rev - 1)
			who := 1 + r.IntN(1+seed)
			if seqs[who]++; seqs[who] > api.MaxEdits {
				break
			}
			op := ins(r.IntN(len(text)+1), 'a', who, seqs[who])
			if len(text) > 0 && r.IntN(3) == 0 {
				op = del(r.IntN(len(text)), who, seqs[who])
			}
			wantAdd(t, b, edit(rev-1, op), rev, op, doc.Text(apply(text, op)))
		}
		wantMeant(t, b)
		wantOnce(t, b)
	}
}

// house is a book, and clients that talk to it without a network: an edit goes straight to the book, a synced record straight to a client.
type house struct {
	b       *book.Book
	d       *disk.Disk
	clients []*client.Client
}

func newHouse(t *testing.T, n int) *house {
	t.Helper()
	h := &house{}
	h.b, h.d = booted(t)
	for id := 1; id <= n; id++ {
		c, e := client.New(id)
		if e != api.OK {
			t.Fatalf("client.New(%d) = %d", id, e)
		}
		tell(t, c, api.Msg{Kind: api.MInvite, Epoch: 1, Client: id})
		tell(t, c, api.Msg{Kind: api.MBeat, Epoch: 1, Client: id})
		h.clients = append(h.clients, c)
	}
	return h
}

// tell gives a message to a client, which must take it: a record in another form than the client waits for is none.
func tell(t *testing.T, c *client.Client, m api.Msg) {
	t.Helper()
	b, err := wire.Encode(m)
	if err == nil {
		err = c.Receive(b)
	}
	if err != nil {
		t.Fatalf("P12.2: the client refuses %+v: %v", m, err)
	}
}

// tellNext tells a client the next synced record, if there is one, and tells whether there was.
func (h *house) tellNext(t *testing.T, c *client.Client) bool {
	t.Helper()
	v := c.View()
	if v.Have == h.b.Synced() {
		return false
	}
	rev := v.Have + 1
	op, e := h.b.Done(rev)
	if e != api.OK {
		t.Fatalf("P12.5: Done(%d) = %d", rev, e)
	}
	tell(t, c, api.Msg{Kind: api.MRecord, Epoch: 1, Client: v.ID, Num: rev, Rev: rev, Op: op})
	return true
}

// give gives the book the first edit of a client that is not in it, if there is one, and tells whether there was.
func (h *house) give(t *testing.T, c *client.Client) bool {
	t.Helper()
	for _, e := range c.Pending() {
		switch bad := h.b.Check(e); bad {
		case api.ErrDone:
			continue
		case api.OK:
			if rev, _, bad := h.b.Add(e); rev != h.b.Revs() || bad != api.OK {
				t.Fatalf("P12.2: Add(%s) = %d, %d", word(e), rev, bad)
			}
			return true
		default:
			t.Fatalf("P12.1: an honest client's edit %s: %d", word(e), bad)
		}
	}
	return false
}

// crash lets the disk crash, and opens a new book on it.
func (h *house) crash(t *testing.T, r *rand.Rand) {
	t.Helper()
	synced := h.b.Synced()
	keep, at, mask := anyCrash(r, h.d)
	if e := h.d.Crash(keep, at, mask); e != api.OK {
		t.Fatalf("disk.Crash = %d", e)
	}
	h.b, _ = open(t, h.d)
	if h.b.Revs() < synced {
		t.Fatalf("P12.8: %d records are left, %d were synced", h.b.Revs(), synced)
	}
	h.b.Boot()
	h.b.Sync()
}

func (h *house) step(t *testing.T, r *rand.Rand) {
	t.Helper()
	c := h.clients[r.IntN(len(h.clients))]
	switch k := r.IntN(40); {
	case k < 12:
		n := len(c.Doc())
		if n == 0 || r.IntN(5) < 3 {
			c.Insert(r.IntN(n+1), 'a'+r.IntN(26))
		} else {
			c.Delete(r.IntN(n))
		}
	case k < 22:
		h.give(t, c)
	case k < 36:
		h.tellNext(t, c)
	case k < 39:
		h.b.Sync()
	default:
		h.crash(t, r)
	}
}

// settle brings every edit to everybody.
func (h *house) settle(t *testing.T) {
	t.Helper()
	made := 0
	for _, c := range h.clients {
		for h.give(t, c) {
		}
		made += c.View().Made
	}
	h.b.Sync()
	if h.b.Revs() != made {
		t.Fatalf("P12.9: %d edits were made, %d are in the log", made, h.b.Revs())
	}
	want, _ := h.b.Doc(made)
	for _, c := range h.clients {
		for h.tellNext(t, c) {
		}
		if v := c.View(); len(v.Pending) > 0 || !doc.Equal(v.Doc, want) {
			t.Fatalf("P12.2: client %d has %q and %d edits pending, the log's text is %q", v.ID, doc.Text(v.Doc), len(v.Pending), doc.Text(want))
		}
	}
}

// TestHonestClients: whatever they make is taken, is told back as they wait for it, and ends in one text, also over crashes.
func TestHonestClients(t *testing.T) {
	pairs := 0
	for seed := range 60 {
		r := dice(seed)
		h := newHouse(t, 1+seed%6)
		for range 400 {
			h.step(t, r)
		}
		h.settle(t)
		wantOnce(t, h.b)
		pairs += wantMeant(t, h.b)
	}
	if pairs < 50 {
		t.Fatalf("%d pairs of inserts at one place: they tell too little", pairs)
	}
}
