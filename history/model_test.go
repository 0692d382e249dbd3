package history_test

import (
	"cmp"
	"maps"
	"math/rand/v2"
	"slices"
	"strconv"
	"testing"

	"jotter/api"
	"jotter/history"
)

// model says the chapter's words one by one: nothing is made ahead, every text is held against every other, and each pair of elements against each.
type model struct{ api.History }

type name struct{ client, seq int }

// before gives the number of the event before.
func (m model) before(i int) int {
	for j := i - 1; j >= 0; j-- {
		if m.Events[j].Site == m.Events[i].Site {
			return j
		}
	}
	return -1
}

func (m model) event(i int) api.Event {
	if i < 0 {
		return api.Event{}
	}
	return m.Events[i]
}

// isValid is layer 4's, of an Insert or a Delete.
func isValid(op api.Op) bool {
	ch := op.Kind == api.Insert && op.Ch >= 32 && op.Ch <= 126 || op.Kind == api.Delete && op.Ch == 0
	return ch && op.Client >= 1 && op.Client <= 64 && op.Seq >= 1 && op.Seq <= 64 && op.Pos >= 0 && op.Pos <= 4095
}

// doesFit is layer 4's, of a valid one.
func doesFit(n int, op api.Op) bool {
	return op.Kind == api.Insert && op.Pos <= n && n < 4096 || op.Kind == api.Delete && op.Pos < n
}

func (m model) check() error {
	if m.Clients < 1 || m.Clients > 64 {
		return api.Wrap(0, api.ErrHistClients)
	}
	if len(m.Log) > 4096 {
		return api.Wrap(0, api.ErrHistLong)
	}
	for k := range m.Log {
		if !m.isLogged(k) {
			return api.Wrap(k, api.ErrHistLog)
		}
	}
	for i := range m.Events {
		if !m.canBe(i) {
			return api.Wrap(i, api.ErrHistEvent)
		}
	}
	for k, e := range m.Log {
		if m.maker(name{e.Op.Client, e.Op.Seq}) < 0 {
			return api.Wrap(k, api.ErrHistLog)
		}
	}
	return nil
}

func (m model) isLogged(k int) bool {
	e := m.Log[k]
	seq, tag := 0, 0
	for j := k - 1; j >= 0; j-- {
		if m.Log[j].Op.Client == e.Op.Client {
			seq, tag = m.Log[j].Op.Seq, m.Log[j].Tag
			break
		}
	}
	return isValid(e.Op) && e.Op.Client <= m.Clients && e.Op.Seq == seq+1 && e.Tag >= tag && e.Tag <= k
}

func (m model) canBe(i int) bool {
	e, p := m.Events[i], m.event(m.before(i))
	if e.Site < 0 || e.Site > m.Clients || e.Step < m.event(i-1).Step || len(e.Doc) > 4096 || e.Have < p.Have || e.Have > len(m.Log) {
		return false
	}
	if e.Site == 0 {
		return e.Made == 0 && e.Op == api.Op{}
	}
	if (e.Op == api.Op{}) {
		for _, x := range m.Log[:e.Have] {
			if x.Op.Client == e.Site && x.Op.Seq > e.Made {
				return false
			}
		}
		return e.Made == p.Made
	}
	for _, x := range m.Log {
		if x.Op.Client == e.Op.Client && x.Op.Seq == e.Op.Seq && x != edit(e.Have, e.Op) {
			return false
		}
	}
	return isValid(e.Op) && e.Op.Client == e.Site && e.Op.Seq == e.Made && e.Made == p.Made+1 && e.Have == p.Have && doesFit(len(p.Doc), e.Op)
}

// maker gives the number of the event that makes an edit, or -1.
func (m model) maker(n name) int {
	return slices.IndexFunc(m.Events, func(e api.Event) bool {
		return e.Op != api.Op{} && n == name{e.Op.Client, e.Op.Seq}
	})
}

// elem gives the element that an edit made or took away.
func (m model) elem(n name) (api.Elem, bool) {
	i := m.maker(n)
	op := m.Events[i].Op
	if op.Kind == api.Insert {
		return el(op.Ch, op.Client, op.Seq), true
	}
	return m.event(m.before(i)).Doc[op.Pos], false
}

// visible gives the names of the edits that are visible at event i.
func (m model) visible(i int) map[name]bool {
	all := map[name]bool{}
	for _, x := range m.Log[:m.Events[i].Have] {
		all[name{x.Op.Client, x.Op.Seq}] = true
	}
	for seq := 1; seq <= m.Events[i].Made; seq++ {
		all[name{m.Events[i].Site, seq}] = true
	}
	return all
}

func (m model) seen(i int) []api.Elem {
	var made, gone, left []api.Elem
	for n := range m.visible(i) {
		if x, isMade := m.elem(n); isMade {
			made = append(made, x)
		} else {
			gone = append(gone, x)
		}
	}
	for _, x := range made {
		if !slices.Contains(gone, x) {
			left = append(left, x)
		}
	}
	return sorted(left)
}

func sorted(text []api.Elem) []api.Elem {
	return slices.SortedFunc(slices.Values(text), func(a, b api.Elem) int {
		return cmp.Or(cmp.Compare(a.Client, b.Client), cmp.Compare(a.Seq, b.Seq), cmp.Compare(a.Ch, b.Ch))
	})
}

// past gives a behind b, by layer 5's rules told anew.
func past(a, b api.Op, aFirst bool) api.Op {
	switch {
	case a.Kind == api.Nop || b.Kind == api.Nop || b.Pos > a.Pos:
		return a
	case b.Kind == api.Insert && b.Pos == a.Pos && a.Kind == api.Insert && aFirst:
		return a
	case b.Kind == api.Insert:
		a.Pos++
	case b.Pos < a.Pos:
		a.Pos--
	case a.Kind == api.Delete:
		return nop(a.Client, a.Seq)
	}
	return a
}

// apply gives the text behind an operation, in new memory; the operation itself is a Nop if it does not fit.
func apply(text []api.Elem, op api.Op) ([]api.Elem, api.Op) {
	text = slices.Clone(text)
	switch {
	case !doesFit(len(text), op):
		return text, nop(op.Client, op.Seq)
	case op.Kind == api.Insert:
		return slices.Insert(text, op.Pos, el(op.Ch, op.Client, op.Seq)), op
	}
	return slices.Delete(text, op.Pos, op.Pos+1), op
}

// life is a client that goes along its path.
type life struct {
	path  []api.View
	forms []api.Op
}

func (l *life) now() api.View { return l.path[len(l.path)-1] }

func (l *life) make(op api.Op) {
	v := l.now()
	v.Doc, op = apply(v.Doc, op)
	v.Made++
	l.forms = append(l.forms, op)
	l.path = append(l.path, v)
}

func (l *life) takeIn(op api.Op, own bool) {
	v := l.now()
	v.Have++
	if own {
		l.forms = l.forms[1:]
	} else {
		for i, form := range l.forms {
			l.forms[i], op = past(form, op, false), past(op, form, true)
		}
		v.Doc, _ = apply(v.Doc, op)
	}
	l.path = append(l.path, v)
}

// paths gives the paths of all sites: the server's, which takes in the done forms alone, is the first.
func (m model) paths() [][]api.View {
	lives := make([]life, m.Clients+1)
	for site := range lives {
		lives[site].path = []api.View{{}}
	}
	for k := 0; k <= len(m.Log); k++ {
		for _, e := range m.Events {
			if (e.Op != api.Op{}) && e.Have == k {
				lives[e.Site].make(e.Op)
			}
		}
		if k == len(m.Log) {
			break
		}
		who := m.Log[k].Op.Client
		done := lives[who].forms[0]
		for site := range lives {
			lives[site].takeIn(done, site == who)
		}
	}
	paths := make([][]api.View, len(lives))
	for site := range lives {
		paths[site] = lives[site].path
	}
	return paths
}

func (m model) ahead(a, b api.Elem) (int, error) {
	for at, x := range []api.Elem{a, b} {
		made := slices.ContainsFunc(m.Events, func(e api.Event) bool {
			return e.Op.Kind == api.Insert && x == el(e.Op.Ch, e.Op.Client, e.Op.Seq)
		})
		if !made || at == 1 && a == b {
			return 0, api.Wrap(at, api.ErrHistAsk)
		}
	}
	paths := m.paths()
	for _, path := range append(paths[1:], paths[0]) {
		for _, v := range path {
			if i, j := slices.Index(v.Doc, a), slices.Index(v.Doc, b); i >= 0 && j >= 0 {
				return cmp.Compare(j, i), nil
			}
		}
	}
	return 0, nil
}

func (m model) judge() api.Verdict {
	paths := m.paths()
	for i := range m.Events {
		if rule, other := m.broken(i, paths); rule > 0 {
			return api.Verdict{Rule: rule, Event: i, Other: other}
		}
	}
	return api.Verdict{}
}

func (m model) broken(i int, paths [][]api.View) (rule, other int) {
	e, p := m.Events[i], m.before(i)
	if (e.Op != api.Op{}) {
		if text, _ := apply(m.event(p).Doc, e.Op); !slices.Equal(text, e.Doc) {
			return 1, p
		}
	}
	if !slices.Equal(sorted(e.Doc), m.seen(i)) {
		return 2, -1
	}
	for j := range i {
		if !slices.Equal(e.Doc, m.Events[j].Doc) && maps.Equal(m.visible(i), m.visible(j)) {
			return 3, j
		}
	}
	for j := range i {
		if isTurned(e.Doc, m.Events[j].Doc) {
			return 4, j
		}
	}
	for _, v := range paths[e.Site] {
		if v.Have == e.Have && v.Made == e.Made && slices.Equal(v.Doc, e.Doc) {
			return 0, 0
		}
	}
	return 5, -1
}

// isTurned tells whether a text has two elements ahead of one another as the other has them behind one another.
func isTurned(one, two []api.Elem) bool {
	for i, x := range one {
		for _, y := range one[i+1:] {
			for k, z := range two {
				if z == y && slices.Contains(two[k+1:], x) {
					return true
				}
			}
		}
	}
	return false
}

// wantModel ends the test unless all calls answer as the model does, and leave the history as it was. It gives the verdict.
func wantModel(t *testing.T, h api.History) (api.Verdict, error) {
	t.Helper()
	h = copied(h)
	kept := copied(h)
	m := model{h}
	want := m.check()
	if err := history.Check(h); api.Code(err) != api.Code(want) || api.Place(err) != api.Place(want) {
		t.Fatalf("P14.1: Check is %v, want %v; %s", err, want, word(h))
	}
	if want != nil {
		wantRefused(t, "as Check", h, api.Place(want), api.Code(want))
		return api.Verdict{}, want
	}
	for i := range h.Events {
		wantSeen(t, "event", h, i, m.seen(i)...)
	}
	m.wantPaths(t)
	m.wantSides(t)
	verdict := m.judge()
	wantVerdict(t, "by the model", h, verdict.Rule, verdict.Event, verdict.Other)
	if !same(h, kept) {
		t.Fatalf("P14.6: a call has changed the history %s\nwhich was %s", word(h), word(kept))
	}
	return verdict, nil
}

func (m model) wantPaths(t *testing.T) {
	t.Helper()
	for site, path := range m.paths() {
		if site == 0 {
			continue
		}
		got, err := history.Path(m.History, site)
		if err != nil || !slices.EqualFunc(got, path, sameView) {
			t.Fatalf("P14.3: the path of %d is %v, %v\nwant %v; %s", site, got, err, path, word(m.History))
		}
	}
}

func sameView(a, b api.View) bool {
	return a.Have == b.Have && a.Made == b.Made && slices.Equal(a.Doc, b.Doc)
}

// wantSides asks for all pairs of the elements that were made, up to some number, and one that was not.
func (m model) wantSides(t *testing.T) {
	t.Helper()
	all := []api.Elem{el('?', 1, 1)}
	for _, e := range m.Events {
		if e.Op.Kind == api.Insert && len(all) < 6 {
			all = append(all, el(e.Op.Ch, e.Op.Client, e.Op.Seq))
		}
	}
	for _, a := range all {
		for _, b := range all {
			want, bad := m.ahead(a, b)
			got, err := history.Ahead(m.History, a, b)
			wantError(t, "P14.4: Ahead", err, bad)
			if got != want {
				t.Fatalf("P14.4: Ahead(%v, %v) is %d, want %d; %s", a, b, got, want, word(m.History))
			}
		}
	}
}

// maker makes histories that can be: edits are made, logged and taken in as it comes, and each site's events are told in their order, but not those of unlike sites.
type maker struct {
	r      *rand.Rand
	h      api.History
	lives  []life
	done   []api.Op
	logged []int // by client
	wild   bool  // texts are shown that nobody has
	sites  [][]api.Event
}

// made gives a history of so many steps.
func made(r *rand.Rand, clients, steps int, wild bool) api.History {
	x := &maker{r: r, h: api.History{Clients: clients}, lives: make([]life, clients+1), logged: make([]int, clients+1), wild: wild, sites: make([][]api.Event, clients+1)}
	for site := range x.lives {
		x.lives[site].path = []api.View{{}}
	}
	for range steps {
		x.step()
	}
	x.mix()
	return x.h
}

func (x *maker) step() {
	site := 1 + x.r.IntN(x.h.Clients)
	l := &x.lives[site]
	switch k := x.r.IntN(10); {
	case k < 4 && l.now().Made < api.MaxEdits:
		x.edit(site)
	case k < 7 && x.logged[site] < l.now().Made:
		x.log(site)
	case k < 9:
		x.takeIn(site, x.r.IntN(3))
		x.show(site, api.Op{})
	default:
		x.takeIn(0, x.r.IntN(4))
		x.show(0, api.Op{})
	}
}

// shown gives the text that a site showed last.
func (x *maker) shown(site int) []api.Elem {
	if n := len(x.sites[site]); n > 0 {
		return x.sites[site][n-1].Doc
	}
	return nil
}

// edit lets a client make an edit that fits what it showed last.
func (x *maker) edit(site int) {
	l := &x.lives[site]
	seq, n := l.now().Made+1, len(x.shown(site))
	if len(x.sites[site]) > 0 && x.sites[site][len(x.sites[site])-1].Have != l.now().Have {
		return
	}
	op := ins(x.r.IntN(n+1), 'a'+byte(x.r.IntN(3)), site, seq)
	if n > 0 && x.r.IntN(5) < 2 {
		op = del(x.r.IntN(n), site, seq)
	}
	l.make(op)
	x.show(site, op)
}

// log puts a client's next edit into the log: its done form is the first of the client's forms behind all records, to which a copy of it goes.
func (x *maker) log(site int) {
	for _, e := range x.sites[site] {
		if e.Op.Seq == x.logged[site]+1 {
			x.h.Log = append(x.h.Log, edit(e.Have, e.Op))
		}
	}
	x.logged[site]++
	last := x.lives[site]
	last.path, last.forms = slices.Clone(last.path), slices.Clone(last.forms)
	for _, op := range x.done[last.now().Have:] {
		last.takeIn(op, op.Client == site)
	}
	x.done = append(x.done, last.forms[0])
}

// takeIn lets a site take in so many records, if there are.
func (x *maker) takeIn(site, count int) {
	l := &x.lives[site]
	for ; count > 0 && l.now().Have < len(x.done); count-- {
		op := x.done[l.now().Have]
		l.takeIn(op, op.Client == site)
	}
}

// show tells an event of a site, as it stands now.
func (x *maker) show(site int, op api.Op) {
	v := x.lives[site].now()
	e := api.Event{Site: site, Have: v.Have, Made: v.Made, Op: op, Doc: v.Doc}
	if x.wild && x.r.IntN(3) == 0 {
		e.Doc = spoiltText(x.r, e.Doc)
	}
	x.sites[site] = append(x.sites[site], e)
}

// mix tells the events of all sites, taking now one site's next one, now another's.
func (x *maker) mix() {
	step := 0
	for left := x.sites; ; {
		left = slices.DeleteFunc(left, func(list []api.Event) bool { return len(list) == 0 })
		if len(left) == 0 {
			return
		}
		k := x.r.IntN(len(left))
		e := left[k][0]
		left[k] = left[k][1:]
		step += x.r.IntN(2)
		e.Step = step
		x.h.Events = append(x.h.Events, e)
	}
}

// spoiltText gives a text that is another, or may be.
func spoiltText(r *rand.Rand, text []api.Elem) []api.Elem {
	text = slices.Clone(text)
	n := len(text)
	if n == 0 {
		return []api.Elem{el('a', 1, 1)}
	}
	i, j := r.IntN(n), r.IntN(n)
	switch r.IntN(10) {
	case 0:
		return slices.Delete(text, i, i+1)
	case 1:
		return slices.Insert(text, i, text[j])
	case 2:
		text[i].Ch++
	case 3:
		text[i].Seq += r.IntN(3) - 1
	case 4:
		text[i].Client = r.IntN(70) - 3
	case 5:
		slices.Reverse(text)
	case 6:
		text[i] = text[j]
	default:
		text[i], text[j] = text[j], text[i]
	}
	return text
}

// bendOne changes one thing of a history.
func bendOne(r *rand.Rand, h *api.History) {
	off := []int{-1, 1, 1, -1, 2, -2, 64, -64, 1 << 62}[r.IntN(9)]
	if len(h.Log) > 0 && r.IntN(3) == 0 {
		bendLog(r, h, off)
		return
	}
	if len(h.Events) == 0 || r.IntN(20) == 0 {
		h.Clients += off
		return
	}
	i, j := r.IntN(len(h.Events)), r.IntN(len(h.Events))
	e := &h.Events[i]
	switch r.IntN(12) {
	case 0:
		e.Site += off
	case 1:
		e.Step += off
	case 2:
		e.Have += off
	case 3:
		e.Made += off
	case 4:
		bendOp(r, &e.Op, off)
	case 5:
		h.Events[i], h.Events[j] = h.Events[j], h.Events[i]
	case 6:
		h.Events = slices.Delete(h.Events, i, i+1)
	case 7:
		h.Events = slices.Insert(h.Events, i, h.Events[j])
	case 8:
		e.Doc = h.Events[j].Doc
	default:
		e.Doc = spoiltText(r, e.Doc)
	}
}

func bendLog(r *rand.Rand, h *api.History, off int) {
	i, j := r.IntN(len(h.Log)), r.IntN(len(h.Log))
	switch r.IntN(6) {
	case 0:
		h.Log[i].Tag += off
	case 1:
		bendOp(r, &h.Log[i].Op, off)
	case 2:
		h.Log[i], h.Log[j] = h.Log[j], h.Log[i]
	case 3:
		h.Log = slices.Delete(h.Log, i, i+1)
	case 4:
		h.Log = h.Log[:i]
	case 5:
		h.Log = slices.Insert(h.Log, i, h.Log[j])
	}
}

func bendOp(r *rand.Rand, op *api.Op, off int) {
	switch r.IntN(6) {
	case 0:
		op.Kind += off
	case 1:
		op.Pos += off
	case 2:
		op.Ch += byte(off)
	case 3:
		op.Client += off
	case 4:
		op.Seq += off
	case 5:
		*op = api.Op{}
	}
}

// tally counts what histories came to.
type tally map[string]int

func (c tally) add(v api.Verdict, err error) {
	if err != nil {
		c["error "+strconv.Itoa(int(api.Code(err)))]++
		return
	}
	c["rule "+strconv.Itoa(v.Rule)]++
}

// wantEnough ends the test if something came too seldom.
func (c tally) wantEnough(t *testing.T, least int, words ...string) {
	t.Helper()
	for _, w := range words {
		if c[w] < least {
			t.Fatalf("the histories tell too little: %v", c)
		}
	}
}

// TestHonestHistories: whatever was made, logged and taken in, and in whatever order the sites tell it: it holds.
func TestHonestHistories(t *testing.T) {
	records := 0
	for seed := range 1000 {
		r := dice(seed)
		h := made(r, 1+seed%5, 5+r.IntN(40), false)
		records += len(h.Log)
		if v, err := wantModel(t, h); v.Rule != 0 || err != nil {
			t.Fatalf("P14.5: seed %d: %v, %v; %s", seed, v, err, word(h))
		}
	}
	if records < 4000 {
		t.Fatalf("the histories tell too little: %d records", records)
	}
}

// TestBentHistories: one thing of an honest history is changed, or two.
func TestBentHistories(t *testing.T) {
	counts := tally{}
	for seed := range 8000 {
		r := dice(seed + 10000)
		h := made(r, 1+seed%4, 4+r.IntN(40), false)
		for range 1 + r.IntN(2) {
			bendOne(r, &h)
		}
		counts.add(wantModel(t, h))
	}
	counts.wantEnough(t, 5, "error 140", "error 141", "error 142", "rule 0", "rule 1", "rule 2", "rule 3", "rule 4", "rule 5")
}

// TestBentTexts: of honest histories texts alone are changed, by turning elements round: so most are told by rules 3 to 5.
func TestBentTexts(t *testing.T) {
	counts := tally{}
	for seed := range 2000 {
		r := dice(seed + 50000)
		h := made(r, 2+seed%3, 20+r.IntN(40), false)
		for range 1 + r.IntN(3) {
			e := &h.Events[r.IntN(len(h.Events))]
			e.Doc = slices.Clone(e.Doc)
			if n := len(e.Doc); n > 1 {
				i := r.IntN(n - 1)
				e.Doc[i], e.Doc[i+1] = e.Doc[i+1], e.Doc[i]
			}
		}
		counts.add(wantModel(t, h))
	}
	counts.wantEnough(t, 100, "rule 0", "rule 1", "rule 3", "rule 4", "rule 5")
}

// TestWildHistories: texts that nobody has, and edits made at them: most of them fit no path.
func TestWildHistories(t *testing.T) {
	counts := tally{}
	for seed := range 3000 {
		r := dice(seed + 90000)
		counts.add(wantModel(t, made(r, 1+seed%4, 3+r.IntN(40), true)))
	}
	counts.wantEnough(t, 5, "rule 0", "rule 1", "rule 2", "rule 3", "rule 4", "rule 5")
}

// TestAllTexts: of example 2, with every event showing each of all texts of x and y.
func TestAllTexts(t *testing.T) {
	texts := [][]api.Elem{{}, {x}, {y}, {x, y}, {y, x}}
	counts := tally{}
	for n := range 5 * 5 * 5 * 5 * 5 * 5 {
		h := together()
		for i := range h.Events {
			h.Events[i].Doc = texts[n%5]
			n /= 5
		}
		want, err := api.Verdict{}, model{h}.check()
		if err == nil {
			want = model{h}.judge()
		}
		got, bad := history.Judge(h)
		if got != want {
			t.Fatalf("P14.5: %v, want %v; %s", got, want, word(h))
		}
		wantError(t, "P14.5: Judge", bad, err)
		counts.add(want, err)
	}
	if counts["rule 0"] != 1 {
		t.Fatalf("P14.5: more than one history holds: %v", counts)
	}
}
