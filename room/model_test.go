package room_test

import (
	"fmt"
	"math/rand/v2"
	"regexp"
	"slices"
	"strconv"
	"strings"
	"testing"

	"jotter/api"
	"jotter/book"
	"jotter/desk"
	"jotter/history"
	"jotter/room"
	"jotter/script"
	"jotter/system"
	"jotter/wal"
	"jotter/wire"
)

// parlour is a room told otherwise: lines are read by patterns, edits counted by the clients, the past laid out text by text, all questions answered out of the report.
type parlour struct {
	x      *system.System
	desks  []*desk.Desk
	forged bool
}

func newParlour(t *testing.T, clients int) *parlour {
	t.Helper()
	x, e := system.New(clients)
	if e != api.OK {
		t.Fatalf("a system of %d clients: %v", clients, e)
	}
	p := &parlour{x: x}
	for site := 1; site <= clients; site++ {
		p.desks = append(p.desks, desk.New(guest{x, site}, 64))
	}
	return p
}

// guest is a hand that knows its edits by what its client was ahead of them.
type guest struct {
	x    *system.System
	site int
}

func (g guest) Doc() []api.Elem {
	v, _ := g.x.Site(g.site)
	return v.Doc
}

func (g guest) Insert(pos, ch int) (api.Edit, api.Errno) {
	return g.edit(api.Entry{Kind: api.EInsert, Site: g.site, A: pos, Ch: byte(ch)}, api.Op{Kind: api.Insert, Pos: pos, Ch: byte(ch)})
}

func (g guest) Delete(pos int) (api.Edit, api.Errno) {
	return g.edit(api.Entry{Kind: api.EDelete, Site: g.site, A: pos}, api.Op{Kind: api.Delete, Pos: pos})
}

func (g guest) edit(e api.Entry, op api.Op) (api.Edit, api.Errno) {
	v, _ := g.x.Site(g.site)
	if s := g.x.Do(e); s.Err != api.OK {
		return api.Edit{}, s.Err
	}
	op.Client, op.Seq = g.site, v.Made+1
	return api.Edit{Tag: v.Have, Op: op}, api.OK
}

const (
	num    = `(0|[1-9][0-9]{0,5})`
	played = `^(tick|deliver|drop|double|flip|all|round|crash|boot|stumble|forge)( .*)?$`
)

// custom is what the lines of one pattern are answered by.
type custom struct {
	pattern *regexp.Regexp
	site    bool // the first number is a client's
	answer  func(p *parlour, line string, n []int) string
}

// customs are all lines that a room knows.
var customs = func() []custom {
	var all []custom
	add := func(site bool, answer func(p *parlour, line string, n []int) string, patterns ...string) {
		for _, x := range patterns {
			all = append(all, custom{regexp.MustCompile(`(?s)` + x), site, answer})
		}
	}
	at := func(do func(d *desk.Desk, line string, n []int) api.Errno) func(p *parlour, line string, n []int) string {
		return func(p *parlour, line string, n []int) string {
			d, before := p.desks[n[0]-1], p.view(n[0]).Made
			if e := do(d, line, n); e != api.OK {
				return fmt.Sprint("error ", int(e))
			}
			return fmt.Sprint("ok ", p.view(n[0]).Made-before)
		}
	}
	rest := func(line string) string { return strings.SplitN(line, " ", 3)[2] }
	add(false, (*parlour).play, played)
	add(true, at(func(d *desk.Desk, line string, _ []int) api.Errno { return d.Type(rest(line)) }), `^type `+num+` .*$`)
	add(true, at(func(d *desk.Desk, line string, _ []int) api.Errno { return d.Replace(rest(line)) }), `^replace `+num+` .*$`)
	add(true, at(func(d *desk.Desk, _ string, n []int) api.Errno { return d.Erase(n[1]) }), `^erase `+num+` (0|-?[1-9][0-9]{0,5})$`)
	add(true, at(func(d *desk.Desk, _ string, n []int) api.Errno { return d.Move(n[1]) }), `^move `+num+` `+num+`$`)
	add(true, at(func(d *desk.Desk, _ string, _ []int) api.Errno { return d.Undo() }), `^undo `+num+`$`)
	add(true, at(func(d *desk.Desk, _ string, _ []int) api.Errno { return d.Redo() }), `^redo `+num+`$`)
	add(true, func(p *parlour, _ string, n []int) string {
		return fmt.Sprintf("text %d %s", p.desks[n[0]-1].Caret(), plain(p.view(n[0]).Doc))
	}, `^show `+num+`$`)
	add(true, func(p *parlour, _ string, n []int) string {
		v := p.view(n[0])
		return fmt.Sprintf("pending %d made %d have %d", len(v.Pending), v.Made, v.Have)
	}, `^pending `+num+`$`)
	add(true, func(p *parlour, _ string, n []int) string {
		undo, redo := p.desks[n[0]-1].Depth()
		return fmt.Sprintf("left %d undo %d redo %d", 64-p.view(n[0]).Made, undo, redo)
	}, `^left `+num+`$`)
	add(false, (*parlour).told, `^told$`)
	add(false, (*parlour).judge, `^judge$`)
	add(false, (*parlour).ask, `^(past|blame|died) `+num+`$`, `^(born|tally) `+num+` `+num+`$`)
	return all
}()

// numbers finds the numbers that stand where a pattern wants them.
func (c custom) numbers(line string) []int {
	var n []int
	for _, word := range c.pattern.FindStringSubmatch(line)[1:] {
		if i, err := strconv.Atoi(word); err == nil {
			n = append(n, i)
		}
	}
	return n
}

func (p *parlour) say(line string) string {
	if strings.Contains(line, "\n") {
		return "error 200"
	}
	for _, c := range customs {
		if !c.pattern.MatchString(line) {
			continue
		}
		n := c.numbers(line)
		if c.site && (n[0] < 1 || n[0] > len(p.desks)) {
			return "error 160"
		}
		return c.answer(p, line, n)
	}
	return "error 200"
}

func (p *parlour) view(site int) api.ClientView {
	v, _ := p.x.Site(site)
	return v
}

func (p *parlour) play(line string, _ []int) string {
	e := script.Line(line)
	p.forged = p.forged || e.Kind == api.EForge
	s := p.x.Do(e)
	if s.Err != api.OK {
		return fmt.Sprint("error ", int(s.Err))
	}
	return fmt.Sprint("ok ", s.Count)
}

func (p *parlour) told(string, []int) string {
	r := p.x.Report()
	if !r.Server.Up {
		return "error 161"
	}
	texts := textsOf(editsOn(r.Disk[:r.Synced]))
	return fmt.Sprintf("told %d %s", len(texts)-1, plain(texts[len(texts)-1]))
}

func (p *parlour) judge(string, []int) string {
	if !p.forged {
		return "holds"
	}
	r := p.x.Report()
	v, err := history.Judge(api.History{Clients: r.Clients, Log: r.Log, Events: r.Events})
	switch {
	case err != nil:
		return fmt.Sprint("error ", int(api.Code(err)))
	case v == api.Verdict{}:
		return "holds"
	}
	return fmt.Sprint("broken ", v.Rule, " ", v.Event, " ", v.Other)
}

// ask answers a question of the past, out of all texts that there were.
func (p *parlour) ask(line string, n []int) string {
	edits := editsOn(p.x.Report().Disk)
	texts := textsOf(edits)
	verb, _, _ := strings.Cut(line, " ")
	rev := n[0]
	if verb == "tally" {
		rev = n[1]
	}
	if rev >= len(texts) || verb == "died" && rev == 0 {
		return "error 180"
	}
	switch verb {
	case "past":
		return fmt.Sprintf("past %d %s", rev, plain(texts[rev]))
	case "blame":
		return "blame" + blameOf(texts[rev])
	case "born":
		if n[1] >= len(texts[rev]) {
			return "error 181"
		}
		return fmt.Sprint("born ", firstWith(texts, texts[rev][n[1]]))
	case "died":
		return fmt.Sprint("died ", deathOf(texts, rev))
	}
	return "tally " + tallyOf(texts, edits, n[0], rev)
}

// blameOf tells the runs of a text, found by the places at which one begins.
func blameOf(text []api.Elem) string {
	var begins []int
	for i := range text {
		if i == 0 || text[i].Client != text[i-1].Client {
			begins = append(begins, i)
		}
	}
	var b strings.Builder
	for i, from := range begins {
		to := append(begins, len(text))[i+1]
		fmt.Fprintf(&b, " %d:%d-%d", text[from].Client, from, to)
	}
	return b.String()
}

// firstWith tells the first text that has an element.
func firstWith(texts [][]api.Elem, x api.Elem) int {
	return slices.IndexFunc(texts, func(text []api.Elem) bool { return slices.Contains(text, x) })
}

// fresh gives what a text has and the one before has not.
func fresh(before, text []api.Elem) []api.Elem {
	return slices.DeleteFunc(slices.Clone(text), func(x api.Elem) bool { return slices.Contains(before, x) })
}

func deathOf(texts [][]api.Elem, rev int) int {
	born := fresh(texts[rev-1], texts[rev])
	if len(born) == 0 {
		return 0
	}
	gone := slices.IndexFunc(texts[rev:], func(text []api.Elem) bool { return !slices.Contains(text, born[0]) })
	if gone < 0 {
		return 0
	}
	return rev + gone
}

func tallyOf(texts [][]api.Elem, edits []api.Edit, client, rev int) string {
	put, took, stand := 0, 0, 0
	for k := 1; k <= rev; k++ {
		if edits[k-1].Op.Client == client {
			put += len(fresh(texts[k-1], texts[k]))
			took += len(fresh(texts[k], texts[k-1]))
		}
	}
	for _, x := range texts[rev] {
		if x.Client == client {
			stand++
		}
	}
	return fmt.Sprint(put, " ", took, " ", stand)
}

// editsOn gives the edits that lie on a disk, up to what cannot stand.
func editsOn(disk []byte) []api.Edit {
	payloads, _, _ := wal.Scan(disk)
	var edits []api.Edit
	for _, b := range payloads {
		if item, err := wire.DecodeItem(b); err != nil {
			break
		} else if item.Kind == api.LEdit {
			edits = append(edits, api.Edit{Tag: item.Tag, Op: item.Op})
		}
	}
	return edits
}

// textsOf gives the texts behind the first 0, 1, 2, .. edits.
func textsOf(edits []api.Edit) [][]api.Elem {
	texts := [][]api.Elem{nil}
	for k := range edits {
		_, text, err := book.Replay(edits[:k+1])
		if err != nil {
			break
		}
		texts = append(texts, text)
	}
	return texts
}

func plain(text []api.Elem) string {
	b := make([]byte, len(text))
	for i, x := range text {
		b[i] = x.Ch
	}
	return string(b)
}

// mixed gives a line that a room of so many clients may be told; wild: wrong words, too.
func mixed(r *rand.Rand, clients int, wild bool) string {
	site := func() string { return strconv.Itoa(1 + r.IntN(clients)) }
	small := func(n int) string { return strconv.Itoa(r.IntN(n)) }
	word := func() string {
		b := make([]byte, r.IntN(5))
		for i := range b {
			b[i] = "ab c"[r.IntN(4)]
		}
		return string(b)
	}
	if wild && r.IntN(8) == 0 {
		words := []string{pick(r, "type", "erase", "show", "told", "past", "born", "tally", "tick", "flip", "crash", "undo", "left", "insert", "", "Type")}
		for range r.IntN(4) {
			words = append(words, pick(r, "", "0", "1", "2", "9", "-1", "-0", "01", "x", "999999", "1000000", "\n", "\xff"))
		}
		return strings.Join(words, " ")
	}
	switch r.IntN(10) {
	case 0, 1:
		return pick(r, "type "+site()+" "+word(), "replace "+site()+" "+word()+word(), "erase "+site()+" "+pick(r, "", "-")+strconv.Itoa(1+r.IntN(2)), "move "+site()+" "+small(6))
	case 2:
		return pick(r, "undo ", "redo ", "undo ") + site()
	case 3, 4:
		return pick(r, "tick 0", "tick "+site(), "deliver "+small(5), "deliver 0", "drop "+small(5), "double "+small(5), "flip "+small(5)+" "+small(20)+" "+strconv.Itoa(1+r.IntN(255)))
	case 5, 6:
		return pick(r, "all", "round")
	case 7:
		keep := r.IntN(40)
		return fmt.Sprint(pick(r, "crash ", "stumble "), keep, " ", r.IntN(keep+1), " ", pick(r, 0, 0, 1+r.IntN(255)))
	case 8:
		return pick(r, "boot", "show "+site(), "pending "+site(), "left "+site(), "told", "judge")
	}
	return pick(r, "past "+small(9), "blame "+small(9), "born "+small(9)+" "+small(5), "died "+small(9), "tally "+site()+" "+small(9))
}

// TestMixedRuns: a room answers as the model does, line by line.
func TestMixedRuns(t *testing.T) {
	for seed := range 60 {
		d := dice(seed)
		clients := 1 + d.IntN(3)
		r, p := open(t, clients), newParlour(t, clients)
		for i := range 250 {
			line := mixed(d, clients, true)
			if got, want := r.Say(line), p.say(line); got != want {
				t.Fatalf("P20.3: run %d, line %d: %q is answered by %q, want %q", seed, i, line, got, want)
			}
			if i%50 == 0 {
				sameInside(t, r, p)
			}
		}
		sameInside(t, r, p)
	}
}

// sameInside ends the test unless a room's texts and its disk are the model's.
func sameInside(t *testing.T, r *room.Room, p *parlour) {
	t.Helper()
	all := p.x.Report()
	if disk := r.Disk(); !slices.Equal(disk, all.Disk) {
		t.Fatalf("P20.7: a disk %x, want %x", disk, all.Disk)
	}
	for site := 1; site <= len(p.desks); site++ {
		if text, e := r.Doc(site); e != api.OK || !slices.Equal(text, p.view(site).Doc) {
			t.Fatalf("P20.7: client %d's text %v, %v, want %v", site, text, e, p.view(site).Doc)
		}
	}
	text, e := r.Doc(0)
	if !all.Server.Up {
		if text != nil || e != api.ErrDown {
			t.Fatalf("P20.7: a server that is down: %v, %v", text, e)
		}
		return
	}
	if e != api.OK || !slices.Equal(text, all.Server.Told) {
		t.Fatalf("P20.7: the server's synced text %v, %v, want %v", text, e, all.Server.Told)
	}
}

// TestForgedRuns: forged messages, right ones and wrong ones, change nothing in how a room answers.
func TestForgedRuns(t *testing.T) {
	for seed := range 40 {
		d := dice(1000 + seed)
		clients := 1 + d.IntN(3)
		r, p := open(t, clients), newParlour(t, clients)
		for i := range 200 {
			line := mixed(d, clients, false)
			if d.IntN(4) == 0 {
				line = forge(t, d.IntN(clients+1), forgery(d, clients))
			}
			if got, want := r.Say(line), p.say(line); got != want {
				t.Fatalf("P20.3: run %d, line %d: %q is answered by %q, want %q", seed, i, line, got, want)
			}
		}
		sameInside(t, r, p)
	}
}

// forgery gives a message that might be taken.
func forgery(d *rand.Rand, clients int) api.Msg {
	to, of := 1+d.IntN(clients), 1+d.IntN(clients)
	op := api.Op{Kind: pick(d, api.Insert, api.Insert, api.Delete), Pos: d.IntN(3), Client: of, Seq: 1 + d.IntN(4)}
	if op.Kind == api.Insert {
		op.Ch = pick[byte](d, 'a', 'z')
	}
	rev := 1 + d.IntN(4)
	own := op
	own.Client = to
	return pick(d, api.Msg{Kind: api.MInvite, Epoch: 1 + d.IntN(3), Client: to}, api.Msg{Kind: api.MRecord, Epoch: 1 + d.IntN(2), Client: to, Num: rev, Rev: rev, Op: op},
		api.Msg{Kind: api.MEdit, Epoch: 1 + d.IntN(2), Client: to, Num: own.Seq, Tag: d.IntN(2), Op: own}, api.Msg{Kind: api.MHello, Epoch: 1 + d.IntN(2), Client: to, First: 1}, api.Msg{Kind: api.MBeat, Epoch: 1 + d.IntN(2), Client: to, Ack: d.IntN(3)})
}

// TestAllShortLines: all lines of up to four words out of a few are answered as by the model.
func TestAllShortLines(t *testing.T) {
	verbs := []string{"tick", "deliver", "drop", "double", "flip", "all", "round", "crash", "boot", "stumble", "forge", "type", "erase", "move", "replace", "undo", "redo", "show", "pending", "told", "past", "blame", "born", "died", "tally", "judge", "left", "insert", "delete", "clients", "", "shout"}
	words := []string{"", "0", "1", "2", "3", "-1", "-0", "01", "x", "1000000"}
	r, p := joined(t, 2), newParlour(t, 2)
	for range 3 {
		p.say("round")
		p.say("all")
	}
	var try func(line string, left int)
	try = func(line string, left int) {
		if got, want := r.Say(line), p.say(line); got != want {
			t.Fatalf("P20.3: %q is answered by %q, want %q", line, got, want)
		}
		for _, word := range words {
			if left > 0 {
				try(line+" "+word, left-1)
			}
		}
	}
	for _, verb := range verbs {
		try(verb, 3)
		for range 3 {
			try("boot", 0)
			try("round", 0)
			try("all", 0)
		}
	}
	sameInside(t, r, p)
}
