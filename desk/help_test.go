package desk_test

import (
	"math/rand/v2"
	"slices"
	"strconv"
	"strings"
	"testing"

	"jotter/api"
	"jotter/client"
	"jotter/desk"
	"jotter/disk"
	"jotter/doc"
	"jotter/server"
)

// hand is a text that does what is asked of a hand, and tells what was asked of it. Others change its text too. It gives out its own memory, as a hand may.
type hand struct {
	text   []api.Elem
	seq    int                           // of its own edits
	others int                           // of the edits of all others
	docs   int                           // how often its text was asked for
	asked  []string                      // the edits that were asked for, refused or not
	refuse func(call int) api.Errno      // call: how many were asked for before
	spoil  func(at int, text []api.Elem) // what it does with its old memory
}

func (h *hand) Doc() []api.Elem {
	h.docs++
	return h.text
}

func (h *hand) Insert(pos int, ch int) (api.Edit, api.Errno) {
	if e := h.listen("i" + strconv.Itoa(pos) + string(rune(ch))); e != api.OK {
		return api.Edit{}, e
	}
	if ch < api.LeastCh || ch > api.MostCh {
		return api.Edit{}, api.ErrCh
	}
	if pos < 0 || pos > len(h.text) {
		return api.Edit{}, api.ErrPos
	}
	h.seq++
	op := api.Op{Kind: api.Insert, Pos: pos, Ch: byte(ch), Client: 1, Seq: h.seq}
	h.change(slices.Insert(slices.Clone(h.text), pos, api.Elem{Ch: byte(ch), Client: 1, Seq: h.seq}))
	return api.Edit{Op: op}, api.OK
}

func (h *hand) Delete(pos int) (api.Edit, api.Errno) {
	if e := h.listen("d" + strconv.Itoa(pos)); e != api.OK {
		return api.Edit{}, e
	}
	if pos < 0 || pos >= len(h.text) {
		return api.Edit{}, api.ErrPos
	}
	h.seq++
	h.change(slices.Delete(slices.Clone(h.text), pos, pos+1))
	return api.Edit{Op: api.Op{Kind: api.Delete, Pos: pos, Client: 1, Seq: h.seq}}, api.OK
}

// listen keeps what was asked for, and tells whether it is refused.
func (h *hand) listen(what string) api.Errno {
	h.asked = append(h.asked, what)
	if h.refuse == nil {
		return api.OK
	}
	return h.refuse(len(h.asked) - 1)
}

// change takes a new text, and spoils the memory of the old one, if it is such a hand.
func (h *hand) change(text []api.Elem) {
	old := h.text
	h.text = text
	if h.spoil != nil {
		h.spoil(h.seq, old)
	}
}

// puts and takes are what others do.
func (h *hand) puts(pos int, text string) {
	for i := range len(text) {
		h.others++
		h.change(slices.Insert(slices.Clone(h.text), pos+i, api.Elem{Ch: text[i], Client: 2, Seq: h.others}))
	}
}

func (h *hand) takes(pos int) { h.change(slices.Delete(slices.Clone(h.text), pos, pos+1)) }

// after gives a hand that refuses each edit from that one on (they count from 0).
func after(n int, e api.Errno) func(int) api.Errno {
	return func(call int) api.Errno {
		if call >= n {
			return e
		}
		return api.OK
	}
}

// sit gives a hand whose text others have made, and its desk.
func sit(t *testing.T, text string, edits int) (*hand, *desk.Desk) {
	t.Helper()
	h := &hand{}
	h.puts(0, text)
	d := desk.New(h, edits)
	if d == nil {
		t.Fatal("P19.1: New gives no desk")
	}
	return h, d
}

// seen is what can be seen of a desk, beside its text.
type seen struct{ caret, left, undo, redo int }

func see(d *desk.Desk) seen {
	undo, redo := d.Depth()
	return seen{d.Caret(), d.Left(), undo, redo}
}

// wantDesk ends the test unless the text, the caret, what is left and the depth are these.
func wantDesk(t *testing.T, what string, h desk.Hand, d *desk.Desk, text string, want seen) {
	t.Helper()
	if got := see(d); doc.Text(h.Doc()) != text || got != want {
		t.Fatalf("%s: the text %q, %+v, want %q, %+v", what, doc.Text(h.Doc()), got, text, want)
	}
}

// wantSaid ends the test unless a call has answered that.
func wantSaid(t *testing.T, what string, e, want api.Errno) {
	t.Helper()
	if e != want {
		t.Fatalf("%s: %d, want %d", what, e, want)
	}
}

// wantAsked ends the test unless just these edits were asked of the hand since the last time.
func wantAsked(t *testing.T, what string, h *hand, want string) {
	t.Helper()
	if got := strings.Join(h.asked, " "); got != want {
		t.Fatalf("%s: the hand was asked for %q, want %q", what, got, want)
	}
	h.asked = nil
}

// wantRefused ends the test unless a call answers that error, asks nothing of the hand, and leaves the desk as it was.
func wantRefused(t *testing.T, what string, h *hand, d *desk.Desk, call func() api.Errno, want api.Errno) {
	t.Helper()
	text, state, asked := slices.Clone(h.text), see(d), len(h.asked)
	if e := call(); e != want {
		t.Fatalf("%s: %d, want %d", what, e, want)
	}
	if !slices.Equal(h.text, text) || see(d) != state || len(h.asked) != asked {
		t.Fatalf("%s: refused, but %q, %+v became %q, %+v", what, doc.Text(text), state, doc.Text(h.text), see(d))
	}
}

// service is some clients and a server, whose datagrams all come.
type service struct {
	server  *server.Server
	clients []*client.Client
}

func serve(t *testing.T, n int) *service {
	t.Helper()
	s, err := server.Start(disk.New(), n)
	if err != nil {
		t.Fatal(err)
	}
	v := &service{server: s}
	for id := 1; id <= n; id++ {
		c, e := client.New(id)
		if e != api.OK {
			t.Fatalf("client.New(%d): %d", id, e)
		}
		v.clients = append(v.clients, c)
	}
	return v
}

// round lets all send once, and all that they send come.
func (v *service) round(t *testing.T) {
	t.Helper()
	for _, c := range v.clients {
		for _, b := range c.Tick() {
			if err := v.server.Receive(b); err != nil {
				t.Fatal(err)
			}
		}
	}
	for _, g := range v.server.Tick() {
		if err := v.clients[g.To-1].Receive(g.Bytes); err != nil {
			t.Fatal(err)
		}
	}
}

// settle lets everything come everywhere.
func (v *service) settle(t *testing.T) {
	t.Helper()
	for range 200 {
		v.round(t)
		quiet := true
		for _, c := range v.clients {
			quiet = quiet && len(c.Pending()) == 0 && c.View().Have == v.server.View().Revs
		}
		if quiet {
			return
		}
	}
	t.Fatal("the service does not settle")
}

// dice gives numbers that look mixed, the same at every run.
func dice(seed int) *rand.Rand { return rand.New(rand.NewPCG(uint64(seed), 19)) }
