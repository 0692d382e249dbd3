package drill_test

import (
	"fmt"
	"math/rand/v2"
	"regexp"
	"slices"
	"strings"
	"sync"
	"testing"

	"jotter/api"
	"jotter/drill"
	"jotter/room"
)

// item is a line as the model writes it out; a turn stands ahead of each block's lines and of each body.
type item struct {
	at   int
	text string
	turn bool
}

var (
	headForm   = regexp.MustCompile(`^clients ([1-9]|[1-5][0-9]|6[0-4])$`)
	nameForm   = regexp.MustCompile(`^[a-z]{1,12}$`)
	letterForm = regexp.MustCompile(`^[a-z]$`)
	countForm  = regexp.MustCompile(`^(0|[1-9][0-9]{0,2}|1000)$`)
)

// model is a drill of which all lines are held as they are written: a block is written out, line by line, whenever it is come to.
type model struct {
	bodies map[string][]item
	around []item // what has begun
	steps  []api.Drilled
	turns  int
}

// modelUnroll gives what Unroll must give: the steps and the clients, or the error and its place.
func modelUnroll(text string) ([]api.Drilled, int, int, api.Errno) {
	if len(text) > 65536 {
		return nil, 0, 65536, api.ErrScript
	}
	var all []item
	for at, l := range strings.Split(text, "\n") {
		if l = strings.TrimLeft(l, " "); l != "" && !strings.HasPrefix(l, "#") {
			all = append(all, item{at: at, text: l})
		}
	}
	if len(all) == 0 || !headForm.MatchString(all[0].text) {
		return nil, 0, 0, api.ErrHead0
	}
	var clients int
	fmt.Sscanf(all[0].text, "clients %d", &clients)
	m := &model{bodies: map[string][]item{}}
	for i, l := range all[1:] {
		if e := m.look(all[1:], i); e != api.OK {
			return nil, 0, l.at, e
		}
	}
	if len(m.around) > 0 {
		return nil, 0, m.around[len(m.around)-1].at, api.ErrBlock
	}
	if at, e := m.write(all[1:]); e != api.OK {
		return nil, 0, at, e
	}
	return m.steps, clients, 0, api.OK
}

// word gives a line's first word; it is empty of a line that is a step.
func (l item) word() string {
	word := strings.Split(l.text, " ")[0]
	if !slices.Contains([]string{"def", "repeat", "for", "end", "use"}, word) || word == "end" && l.text != "end" {
		return ""
	}
	return word
}

// count tells whether a word is a number, or a letter that a for around counts with.
func (m *model) count(word string) bool {
	return countForm.MatchString(word) || len(word) == 2 && word[0] == '$' && m.lettered(word[1:])
}

func (m *model) lettered(letter string) bool {
	return slices.ContainsFunc(m.around, func(l item) bool { return strings.HasPrefix(l.text, "for "+letter+" ") })
}

// look tells what is wrong with a line.
func (m *model) look(all []item, i int) api.Errno {
	l := all[i]
	words := strings.Split(l.text, " ")
	switch l.word() {
	case "def":
		switch {
		case len(words) != 2:
			return api.ErrDef
		case len(m.around) > 0:
			return api.ErrBlock
		case !nameForm.MatchString(words[1]) || m.bodies[words[1]] != nil:
			return api.ErrDef
		}
		m.around = append(m.around, l)
	case "repeat":
		if len(words) != 2 || !m.count(words[1]) {
			return api.ErrCount
		}
		m.around = append(m.around, l)
	case "for":
		if len(words) != 4 || !letterForm.MatchString(words[1]) || m.lettered(words[1]) {
			return api.ErrVar
		}
		if !m.count(words[2]) || !m.count(words[3]) {
			return api.ErrCount
		}
		m.around = append(m.around, l)
	case "use":
		if len(words) != 2 || m.bodies[words[1]] == nil {
			return api.ErrDef
		}
	case "end":
		if len(m.around) == 0 {
			return api.ErrBlock
		}
		begun := m.around[len(m.around)-1]
		m.around = m.around[:len(m.around)-1]
		if name, ok := strings.CutPrefix(begun.text, "def "); ok {
			from := slices.Index(all, begun) + 1
			m.bodies[name] = append([]item{}, all[from:i]...)
		}
	}
	return api.OK
}

// block cuts the lines up to the end of the block in which they stand off those behind it.
func block(lines []item) (inner, rest []item) {
	open := 1
	for i, l := range lines {
		switch l.word() {
		case "def", "repeat", "for":
			open++
		case "end":
			open--
		}
		if open == 0 {
			return lines[:i], lines[i+1:]
		}
	}
	panic("no end")
}

// write goes through lines; what a block or a use among them stands for is written out first.
func (m *model) write(lines []item) (int, api.Errno) {
	for len(lines) > 0 {
		l, rest := lines[0], lines[1:]
		var inner, out []item
		switch l.word() {
		case "def":
			_, lines = block(rest)
			continue
		case "repeat", "for":
			inner, rest = block(rest)
			out = written(l, inner)
		case "use":
			out = append([]item{{at: l.at, turn: true}}, m.bodies[strings.Split(l.text, " ")[1]]...)
		default:
			if !l.turn {
				if e := m.step(l); e != api.OK {
					return l.at, e
				}
				lines = rest
				continue
			}
		}
		if m.turns++; m.turns > 65536 {
			return l.at, api.ErrWhole
		}
		if at, e := m.write(out); e != api.OK {
			return at, e
		}
		lines = rest
	}
	return 0, api.OK
}

// written gives a block's lines as often as it says, a turn ahead of each time.
func written(l item, inner []item) []item {
	var letter string
	from, to := 1, 0
	if n, _ := fmt.Sscanf(l.text, "for %1s %d %d", &letter, &from, &to); n == 0 {
		fmt.Sscanf(l.text, "repeat %d", &to)
	}
	sign := regexp.MustCompile(`\$` + letter)
	var out []item
	for n := from; n <= to; n++ {
		out = append(out, item{at: l.at, turn: true})
		for _, i := range inner {
			if letter != "" {
				i.text = sign.ReplaceAllString(i.text, fmt.Sprint(n))
			}
			out = append(out, i)
		}
	}
	return out
}

func (m *model) step(l item) api.Errno {
	s := api.Drilled{Line: l.at, Text: l.text}
	if l.text == "expect" || strings.HasPrefix(l.text, "expect ") {
		s.Want, s.Text = true, strings.TrimPrefix(strings.TrimPrefix(l.text, "expect"), " ")
	}
	if s.Want && !slices.ContainsFunc(m.steps, func(s api.Drilled) bool { return !s.Want }) {
		return api.ErrWant
	}
	if len(m.steps) >= 4096 {
		return api.ErrWhole
	}
	m.steps = append(m.steps, s)
	return api.OK
}

// sameAsModel holds Unroll against the model; it tells whether the drill is one.
func sameAsModel(t *testing.T, text string) bool {
	t.Helper()
	steps, clients, at, e := modelUnroll(text)
	got, n, err := drill.Unroll(text)
	if e != api.OK {
		if got != nil || n != 0 || !isFault(err, at, e) {
			t.Errorf("P29.1: Unroll(%.400q) = %s, %d, %v, want Fault{%d, %v}", text, brief(got), n, err, at, e)
		}
		return false
	}
	if err != nil || n != clients || !slices.Equal(got, steps) {
		t.Errorf("P29.1: Unroll(%.400q) = %s, %d, %v, want %s, %d", text, brief(got), n, err, brief(steps), clients)
	}
	return true
}

// everyList calls look with each list of up to most of the lines, side by side by their first ones.
func everyList(pool []string, most int, look func(list []string)) {
	var all sync.WaitGroup
	for _, first := range pool {
		all.Go(func() {
			var grow func(list []string)
			grow = func(list []string) {
				look(list)
				if len(list) < most {
					for _, next := range pool {
						grow(append(slices.Clone(list), next))
					}
				}
			}
			grow([]string{first})
		})
	}
	all.Wait()
}

// TestAllShortDrills: every list of up to five out of twelve lines, with up to three ends behind them.
func TestAllShortDrills(t *testing.T) {
	pool := []string{"def a", "def b", "use a", "use b", "repeat 2", "repeat $s", "for s 0 2", "for t $s 1", "end", "x$s$t", "expect $s", "end "}
	var lock sync.Mutex
	right := 0
	everyList(pool, 5, func(list []string) {
		ended := slices.Concat(list, slices.Repeat([]string{"end"}, 3))
		for more := range 4 {
			if sameAsModel(t, lines(ended[:len(list)+more]...)) {
				lock.Lock()
				right++
				lock.Unlock()
			}
		}
	})
	if right < 10000 {
		t.Errorf("only %d drills are right", right)
	}
}

// writer puts drills together that are mostly right.
type writer struct {
	*rand.Rand
	names   []string
	letters []string // of the blocks around
}

// number gives one, or a letter's sign.
func (w *writer) number() string {
	if len(w.letters) > 0 && w.IntN(3) == 0 {
		return "$" + pick(w.Rand, w.letters...)
	}
	if w.IntN(200) == 0 {
		return pick(w.Rand, "$s", "$", "01", "1001", "")
	}
	return pick(w.Rand, "0", "1", "2", "2", "3")
}

// lines gives some, with blocks in them down to that depth.
func (w *writer) lines(depth int) []string {
	var list []string
	for range 1 + w.IntN(4) {
		space := strings.Repeat(" ", w.IntN(3))
		switch choice := w.IntN(10); {
		case choice < 2 && depth > 0:
			list = append(list, space+"repeat "+w.number())
			list = append(list, w.lines(depth-1)...)
			list = append(list, space+"end")
		case choice < 5 && depth > 0:
			list = append(list, w.loop(depth)...)
		case choice == 5 && len(w.names) > 0:
			list = append(list, space+"use "+pick(w.Rand, w.names...))
		case choice == 6:
			list = append(list, space+pick(w.Rand, "expect", "expect ", "expect $s", "expect  $t $z", "expect ok 1"))
		case choice == 7:
			list = append(list, space+pick(w.Rand, "", "#", "# $s", " "))
		default:
			list = append(list, space+pick(w.Rand, "type $s $t", "round", "x$a$s$$t", "end ", "show $z", "$", "repeats"))
		}
	}
	return list
}

// loop gives a for and its lines.
func (w *writer) loop(depth int) []string {
	v := pick(w.Rand, "s", "t", "a", "z")
	if slices.Contains(w.letters, v) && w.IntN(20) > 0 {
		return nil
	}
	list := []string{"for " + v + " " + w.number() + " " + w.number()}
	w.letters = append(w.letters, v)
	list = append(list, w.lines(depth-1)...)
	w.letters = w.letters[:len(w.letters)-1]
	return append(list, "end")
}

// bend makes a thing wrong, perhaps.
func bend(r *rand.Rand, list []string) []string {
	i, j := r.IntN(len(list)), r.IntN(len(list))
	switch r.IntN(4) {
	case 0:
		list[i] = pick(r, "end", "repeat", "repeat 1", "for s 1 x", "for", "use", "use no", "def", "def a b", "def a", "x", "expect")
	case 1:
		list[i], list[j] = list[j], list[i]
	case 2:
		list = slices.Delete(list, i, i+1)
	default:
		list = slices.Insert(list, i, list[j])
	}
	return list
}

// mixedDrill gives a drill, of four one that is bent.
func mixedDrill(r *rand.Rand) string {
	w := &writer{Rand: r}
	var list []string
	for range 1 + r.IntN(4) {
		if r.IntN(2) == 0 {
			name := pick(r, "a", "b", "c", "calm", "d", "e")
			list = append(append(append(list, "def "+name), w.lines(2)...), "end")
			if r.IntN(20) > 0 && slices.Contains(w.names, name) {
				list[slices.Index(list, "def "+name)] = "repeat 1"
			}
			w.names = append(w.names, name)
		}
		list = append(append(list, pick(r, "", "x", "round")), w.lines(4)...)
	}
	if r.IntN(4) == 0 {
		list = bend(r, list)
	}
	return fmt.Sprintf("%sclients %d\n%s%s", pick(r, "", "", " ", "\n", "#\n"), 1+r.IntN(64), strings.Join(list, "\n"), pick(r, "", "\n", "\n\n"))
}

// TestMixedDrills: blocks in blocks, held against the model.
func TestMixedDrills(t *testing.T) {
	var all sync.WaitGroup
	for part := range 8 {
		all.Go(func() {
			r := dice(part)
			right, long := 0, 0
			for range 4000 {
				text := mixedDrill(r)
				if sameAsModel(t, text) {
					right++
					if steps, _, _ := drill.Unroll(text); len(steps) > 8 {
						long++
					}
				}
			}
			if right < 2000 || long < 1000 {
				t.Errorf("only %d mixed drills are right, %d of them long", right, long)
			}
		})
	}
	all.Wait()
}

// modelRun plays steps by a room's Run, which knows nothing of what is wanted.
func modelRun(steps []api.Drilled, clients int) api.Drill {
	text := fmt.Sprintf("clients %d\n", clients)
	for _, s := range steps {
		if !s.Want {
			text += s.Text + "\n"
		}
	}
	answers := strings.Split(room.Run(text), "\n")
	var d api.Drill
	for _, s := range steps {
		switch {
		case !s.Want:
			d.Said++
		case answers[d.Said] == s.Text:
			d.Held++
		default:
			d.Failed = append(d.Failed, s.Line)
		}
	}
	return d
}

// talked gives a drill of lines that a room understands, or nearly, with what it answers now and then, right or wrong.
func talked(r *rand.Rand, clients int) []string {
	list := []string{"def calm", "repeat " + pick(r, "1", "3"), "round", "all", "end", "end"}
	site := func() string { return fmt.Sprint(1 + r.IntN(clients+1)) }
	for range 3 + r.IntN(10) {
		switch r.IntN(8) {
		case 0, 1:
			list = append(list, "type "+site()+" "+pick(r, "a", "hi", " ", "", "$s"))
		case 2:
			list = append(list, "use calm")
		case 3:
			list = append(list, pick(r, "show ", "pending ", "left ", "undo ", "redo ", "tick ")+site())
		case 4:
			list = append(list, pick(r, "told", "judge", "past 1", "blame 1", "tick 0", "drop 0", "crash 0 0 0", "boot", "shout", "end "))
		case 5:
			list = append(list, "for s 1 "+site(), pick(r, "show $s", "type $s $s$s", "pending $s", "erase $s 1"), pick(r, "expect ok 1", "expect text 1 $s", "expect ok 0", "expect pending 0 made 0 have 0", "expect error 193"), "end")
		default:
			list = append(list, "repeat 2", pick(r, "all", "round", "move 1 0", "judge", "undo 1"), pick(r, "expect ok 0", "expect ok 1", "expect holds", "expect error 194"), "end")
		}
	}
	return list
}

// TestMixedRuns: what a drill came to, held against a room that is told the same lines by its own Run.
func TestMixedRuns(t *testing.T) {
	held, failed := 0, 0
	for seed := range 1500 {
		r := dice(1000 + seed)
		clients := 1 + r.IntN(3)
		text := fmt.Sprintf("clients %d\n%s", clients, strings.Join(talked(r, clients), "\n"))
		steps, n, err := drill.Unroll(text)
		if err != nil {
			if api.Code(err) != api.ErrWant {
				t.Fatalf("P29.1: Unroll(%q): %v", text, err)
			}
			continue
		}
		want := modelRun(steps, n)
		played(t, "P29.3", text, want.Said, want.Held, want.Failed...)
		if want.Said+want.Held+len(want.Failed) != len(steps) {
			t.Errorf("P29.3: %d said, %d held, %d failed of %d steps", want.Said, want.Held, len(want.Failed), len(steps))
		}
		held, failed = held+want.Held, failed+len(want.Failed)
	}
	if held < 1000 || failed < 1000 {
		t.Errorf("only %d expectations held, only %d failed", held, failed)
	}
}
