package desk_test

import (
	"math/rand/v2"
	"slices"
	"strconv"
	"testing"

	"jotter/api"
	"jotter/desk"
	"jotter/doc"
)

// model is a desk by other means: it gives each element a soul, a number, and remembers souls alone. An element that is inserted anew has the soul of the one that went: so nothing ever has to be renamed.
type model struct {
	hand  *hand
	souls map[api.Elem]int
	left  int
	caret []int
	sides [2][][]trace // what can be undone, what can be redone
}

// trace is one edit: whose soul came (or went), as what character, and the souls that stood ahead of it then, from the text's beginning on.
type trace struct {
	soul  int
	came  bool
	ch    byte
	ahead []int
}

func newModel(h *hand, edits int) *model {
	return &model{hand: h, souls: map[api.Elem]int{}, left: min(max(edits, 0), 64)}
}

func (m *model) soul(x api.Elem) int {
	if _, known := m.souls[x]; !known {
		m.souls[x] = len(m.souls) + 1
	}
	return m.souls[x]
}

// text gives the souls of the hand's text.
func (m *model) text() []int {
	var all []int
	for _, x := range m.hand.text {
		all = append(all, m.soul(x))
	}
	return all
}

// behind tells the place behind the last of some souls that is in the text.
func (m *model) behind(souls []int) int {
	text := m.text()
	for i := len(souls) - 1; i >= 0; i-- {
		if at := slices.Index(text, souls[i]); at >= 0 {
			return at + 1
		}
	}
	return 0
}

// insert makes one edit; soul: 0 for a new one.
func (m *model) insert(pos int, ch byte, soul int) (trace, api.Errno) {
	edit, e := m.hand.Insert(pos, int(ch))
	if e != api.OK {
		return trace{}, e
	}
	x := api.Elem{Ch: ch, Client: edit.Op.Client, Seq: edit.Op.Seq}
	if soul != 0 {
		m.souls[x] = soul
	}
	m.left--
	m.caret = m.text()[:pos+1]
	return trace{soul: m.soul(x), came: true, ch: ch}, api.OK
}

func (m *model) remove(pos int) (trace, api.Errno) {
	text, gone := m.text(), m.hand.text[min(pos, len(m.hand.text)-1)]
	if _, e := m.hand.Delete(pos); e != api.OK {
		return trace{}, e
	}
	m.left--
	m.caret = text[:pos]
	return trace{soul: text[pos], ch: gone.Ch, ahead: text[:pos]}, api.OK
}

// all makes some edits, each as a function, up to the first that is refused.
func (m *model) all(edits ...func() (trace, api.Errno)) ([]trace, api.Errno) {
	var made []trace
	for _, edit := range edits {
		x, e := edit()
		if e != api.OK {
			return made, e
		}
		made = append(made, x)
	}
	return made, api.OK
}

func (m *model) done(made []trace, e api.Errno) api.Errno {
	if len(made) > 0 {
		m.sides[0] = append(m.sides[0], made)
		m.sides[1] = nil
	}
	return e
}

func (m *model) move(pos int) api.Errno {
	if pos < 0 || pos > len(m.hand.text) {
		return api.ErrCaret
	}
	m.caret = m.text()[:pos]
	return api.OK
}

func (m *model) typed(text string) api.Errno {
	for _, b := range []byte(text) {
		if b < ' ' || b > '~' {
			return api.ErrType
		}
	}
	if len(text) > m.left {
		return api.ErrRoom
	}
	p := m.behind(m.caret)
	var edits []func() (trace, api.Errno)
	for i := range len(text) {
		edits = append(edits, func() (trace, api.Errno) { return m.insert(p+i, text[i], 0) })
	}
	return m.done(m.all(edits...))
}

func (m *model) erase(n int) api.Errno {
	p := m.behind(m.caret)
	if n > p || n < 0 && -n > len(m.hand.text)-p {
		return api.ErrErase
	}
	if n > m.left || -n > m.left {
		return api.ErrRoom
	}
	var edits []func() (trace, api.Errno)
	for ; n != 0; n -= max(min(n, 1), -1) {
		if n > 0 {
			p--
		}
		at := p
		edits = append(edits, func() (trace, api.Errno) { return m.remove(at) })
	}
	return m.done(m.all(edits...))
}

// replace goes by the longest common part of what is left, as diff's chapter tells the walk.
func (m *model) replace(text string) api.Errno {
	old := doc.Text(m.hand.text)
	if len(old) > 512 || len(text) > 512 {
		return api.ErrWide
	}
	for _, b := range []byte(text) {
		if b < ' ' || b > '~' {
			return api.ErrType
		}
	}
	if len(old)+len(text)-2*most(old, text) > m.left {
		return api.ErrRoom
	}
	var edits []func() (trace, api.Errno)
	for pos := 0; old != "" || text != ""; {
		at := pos
		switch {
		case old != "" && text != "" && old[0] == text[0]:
			old, text, pos = old[1:], text[1:], pos+1
		case old != "" && most(old[1:], text) == most(old, text):
			edits = append(edits, func() (trace, api.Errno) { return m.remove(at) })
			old = old[1:]
		default:
			ch := text[0]
			edits = append(edits, func() (trace, api.Errno) { return m.insert(at, ch, 0) })
			text, pos = text[1:], pos+1
		}
	}
	return m.done(m.all(edits...))
}

// most tells how long the longest common part of two texts is.
func most(a, b string) int {
	row := make([]int, len(b)+1)
	for i := range len(a) {
		diagonal := 0
		for j := range len(b) {
			above := row[j+1]
			row[j+1] = max(above, row[j])
			if a[i] == b[j] {
				row[j+1] = diagonal + 1
			}
			diagonal = above
		}
	}
	return row[len(b)]
}

// takeBack: of side 0 is undoing, of side 1 redoing.
func (m *model) takeBack(side int) api.Errno {
	n := len(m.sides[side])
	if n == 0 {
		return []api.Errno{api.ErrUndo, api.ErrRedo}[side]
	}
	deed := m.sides[side][n-1]
	text, need := m.text(), 0
	for _, x := range deed {
		if !x.came || slices.Contains(text, x.soul) {
			need++
		}
	}
	if need > m.left {
		return api.ErrRoom
	}
	m.sides[side] = m.sides[side][:n-1]
	var edits []func() (trace, api.Errno)
	for _, x := range slices.Backward(deed) {
		switch {
		case !x.came:
			edits = append(edits, func() (trace, api.Errno) { return m.insert(m.behind(x.ahead), x.ch, x.soul) })
		case slices.Contains(text, x.soul):
			edits = append(edits, func() (trace, api.Errno) { return m.remove(slices.Index(m.text(), x.soul)) })
		}
	}
	made, e := m.all(edits...)
	m.sides[1-side] = append(m.sides[1-side], made)
	return e
}

// step is one thing that happens: a call of the desk, or what others do.
type step struct {
	verb string
	n    int
	text string
}

func (s step) String() string { return s.verb + " " + strconv.Itoa(s.n) + " " + strconv.Quote(s.text) }

// pair is a desk and its model, each with a hand of its own; the hands are alike.
type pair struct {
	mine, theirs *hand
	desk         *desk.Desk
	model        *model
	steps        []step
}

func newPair(text string, edits int, refuse func(int) api.Errno) *pair {
	p := &pair{mine: &hand{refuse: refuse}, theirs: &hand{refuse: refuse}}
	p.mine.puts(0, text)
	p.theirs.puts(0, text)
	p.desk, p.model = desk.New(p.mine, edits), newModel(p.theirs, edits)
	return p
}

// play lets one step happen to both, and ends the test unless they look alike behind it.
func (p *pair) play(t *testing.T, s step) {
	t.Helper()
	p.steps = append(p.steps, s)
	got, want := p.both(s)
	undo, redo := p.desk.Depth()
	a := seen{p.desk.Caret(), p.desk.Left(), undo, redo}
	b := seen{p.model.behind(p.model.caret), p.model.left, len(p.model.sides[0]), len(p.model.sides[1])}
	if got != want || a != b || !doc.Equal(p.mine.text, p.theirs.text) || !slices.Equal(p.mine.asked, p.theirs.asked) {
		t.Fatalf("steps %v:\nit answers %d, %q, %+v, asked for %v\nthe model %d, %q, %+v, asked for %v", p.steps,
			got, doc.Text(p.mine.text), a, p.mine.asked, want, doc.Text(p.theirs.text), b, p.theirs.asked)
	}
}

func (p *pair) both(s step) (api.Errno, api.Errno) {
	size := len(p.mine.text)
	switch s.verb {
	case "type":
		return p.desk.Type(s.text), p.model.typed(s.text)
	case "erase":
		return p.desk.Erase(s.n), p.model.erase(s.n)
	case "move":
		return p.desk.Move(s.n), p.model.move(s.n)
	case "replace":
		return p.desk.Replace(s.text), p.model.replace(s.text)
	case "undo":
		return p.desk.Undo(), p.model.takeBack(0)
	case "redo":
		return p.desk.Redo(), p.model.takeBack(1)
	case "puts":
		p.mine.puts(s.n%(size+1), s.text)
		p.theirs.puts(s.n%(size+1), s.text)
	case "takes":
		if size > 0 {
			p.mine.takes(s.n % size)
			p.theirs.takes(s.n % size)
		}
	}
	return api.OK, api.OK
}

// TestAllShortRuns: every run of four steps out of a short list, from two texts.
func TestAllShortRuns(t *testing.T) {
	list := []step{
		{"type", 0, "a"}, {"type", 0, "bc"}, {"erase", 1, ""}, {"erase", -2, ""}, {"move", 0, ""}, {"move", 2, ""},
		{"replace", 0, "cab"}, {"undo", 0, ""}, {"redo", 0, ""}, {"puts", 1, "x"}, {"takes", 0, ""}, {"takes", 1, ""},
	}
	for _, text := range []string{"", "abc"} {
		for n := range len(list) * len(list) * len(list) * len(list) {
			p := newPair(text, 64, nil)
			for k := n; len(p.steps) < 4; k /= len(list) {
				p.play(t, list[k%len(list)])
			}
		}
	}
}

// TestAllRunsOfTakingBack: every run of eight Undos and Redos behind some calls, with others' work at each place between them.
func TestAllRunsOfTakingBack(t *testing.T) {
	begin := []step{{"type", 0, "ab"}, {"erase", 1, ""}, {"move", 0, ""}, {"replace", 0, "bxa"}, {"type", 0, "c"}}
	for n := range 256 {
		for when := range 8 {
			for _, other := range []step{{"puts", 1, "+"}, {"takes", 0, ""}, {"takes", 1, ""}, {"move", 1, ""}} {
				p := newPair("-", 64, nil)
				for _, s := range begin {
					p.play(t, s)
				}
				for k := range 8 {
					if k == when {
						p.play(t, other)
					}
					p.play(t, step{verb: []string{"undo", "redo"}[n>>k&1]})
				}
			}
		}
	}
}

// someStep gives any step; wrong ones are among them.
func someStep(r *rand.Rand, size int) step {
	text := func(most int) string {
		var b []byte
		for range r.IntN(most + 1) {
			b = append(b, byte("abcab ~"[r.IntN(7)]))
		}
		if r.IntN(30) == 0 {
			b = append(b, byte(r.IntN(256)))
		}
		return string(b)
	}
	switch r.IntN(16) {
	case 0, 1, 2:
		return step{verb: "type", text: text(4)}
	case 3, 4:
		return step{verb: "erase", n: r.IntN(9) - 4}
	case 5:
		return step{verb: "replace", text: text(size + 2)}
	case 6, 7:
		return step{verb: "move", n: r.IntN(size+3) - 1}
	case 8, 9, 10:
		return step{verb: "undo"}
	case 11, 12:
		return step{verb: "redo"}
	case 13:
		return step{verb: "puts", n: r.IntN(size + 1), text: "xyx"[:r.IntN(4)]}
	}
	return step{verb: "takes", n: r.IntN(size + 1)}
}

// TestMixedRuns: long runs, with hands that never refuse, with hands that refuse now and then, and with few edits.
func TestMixedRuns(t *testing.T) {
	for seed := range 1500 {
		r := dice(seed)
		var refuse func(int) api.Errno
		if seed%2 == 1 {
			refuse = func(call int) api.Errno {
				if (call*7+seed)%(5+seed%11) == 0 {
					return api.Errno(100 + call)
				}
				return api.OK
			}
		}
		p := newPair("some text"[:seed%10], 64-seed%5*13, refuse)
		for range 60 {
			p.play(t, someStep(r, len(p.mine.text)))
		}
	}
}
