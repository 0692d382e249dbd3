package shelf_test

import (
	"fmt"
	"math/rand/v2"
	"regexp"
	"slices"
	"strconv"
	"strings"
	"testing"

	"jotter/api"
	"jotter/book"
	"jotter/branch"
	"jotter/doc"
	"jotter/revision"
	"jotter/room"
	"jotter/shelf"
	"jotter/wal"
	"jotter/wire"
)

// house is a shelf told otherwise: lines are read by patterns, texts lie in a list, notes hang on lists of elements, patterns are looked for place by place, what was saved is the list of edits alone.
type house struct{ flats []*flat }

type flat struct {
	name    string
	clients int
	room    *room.Room
	slips   []*slip
	given   int
	kept    bool
	edits   []api.Edit
}

// slip is a note.
type slip struct {
	id, client, replies int
	words               string
	elems               []api.Elem
	shut                bool
}

const num = ` (0|[1-9][0-9]{0,5})`

// custom is what the lines of one pattern are answered by.
type custom struct {
	pattern *regexp.Regexp
	answer  func(f *flat, n []int, rest string) string
}

// customs are all lines that name a text that must be there.
var customs = func() []custom {
	var all []custom
	add := func(pattern string, answer func(f *flat, n []int, rest string) string) {
		all = append(all, custom{regexp.MustCompile(`(?s)^` + strings.ReplaceAll(pattern, " #", num) + `$`), answer})
	}
	add(`in ([^ ]*) (.*)`, func(f *flat, _ []int, rest string) string { return f.room.Say(rest) })
	add(`note ([^ ]*) # # # (.*)`, (*flat).note)
	add(`reply ([^ ]*) # # (.*)`, (*flat).reply)
	add(`shut ([^ ]*) #()`, (*flat).shut)
	add(`look ([^ ]*) # #()`, (*flat).look)
	add(`notes ([^ ]*) #()`, (*flat).all)
	add(`at ([^ ]*) # #()`, (*flat).at)
	add(`sweep ([^ ]*) #()`, (*flat).sweep)
	add(`find ([^ ]*) # (.*)`, (*flat).find)
	add(`swap ([^ ]*) # # (.*)`, (*flat).swap)
	add(`words ([^ ]*) #()`, (*flat).words)
	add(`merge ([^ ]*) # (.*)`, (*flat).merge)
	add(`lost ([^ ]*) # (.*)`, (*flat).lost)
	add(`save ([^ ]*)()`, (*flat).save)
	add(`resume ([^ ]*)()`, (*flat).resume)
	return all
}()

var (
	openForm  = regexp.MustCompile(`^open ([^ ]*)` + num + `$`)
	closeForm = regexp.MustCompile(`^close ([^ ]*)$`)
	nameForm  = regexp.MustCompile(`^[a-z]{1,12}$`)
)

func (h *house) say(line string) string {
	if strings.Contains(line, "\n") {
		return "error 250"
	}
	if line == "list" {
		return h.list()
	}
	if m := openForm.FindStringSubmatch(line); m != nil {
		return h.open(m[1], m[2])
	}
	if m := closeForm.FindStringSubmatch(line); m != nil {
		return h.with(m[1], func(f *flat) string {
			h.flats = slices.DeleteFunc(h.flats, func(x *flat) bool { return x == f })
			return "ok"
		})
	}
	for _, c := range customs {
		if m := c.pattern.FindStringSubmatch(line); m != nil {
			var n []int
			for _, word := range m[2 : len(m)-1] {
				i, _ := strconv.Atoi(word)
				n = append(n, i)
			}
			return h.with(m[1], func(f *flat) string { return c.answer(f, n, m[len(m)-1]) })
		}
	}
	return "error 250"
}

// with does something with the text of that name.
func (h *house) with(name string, do func(f *flat) string) string {
	if !nameForm.MatchString(name) {
		return "error 251"
	}
	for _, f := range h.flats {
		if f.name == name {
			return do(f)
		}
	}
	return "error 253"
}

func (h *house) list() string {
	slices.SortFunc(h.flats, func(a, b *flat) int { return strings.Compare(a.name, b.name) })
	answer := "list"
	for _, f := range h.flats {
		answer += fmt.Sprintf(" %s:%d", f.name, f.clients)
	}
	return answer
}

func (h *house) open(name, clients string) string {
	switch there := h.with(name, func(*flat) string { return "error 252" }); {
	case there != "error 253":
		return there
	case len(h.flats) == 8:
		return "error 254"
	}
	r, answer := room.Open("clients " + clients)
	if answer == "ok" {
		n, _ := strconv.Atoi(clients)
		h.flats = append(h.flats, &flat{name: name, clients: n, room: r})
	}
	return answer
}

func wrong(e api.Errno) string { return fmt.Sprintf("error %d", int(e)) }

// read does something with a site's text.
func (f *flat) read(site int, do func(text []api.Elem) string) string {
	text, e := f.room.Doc(site)
	if e != api.OK {
		return wrong(e)
	}
	return do(text)
}

func (f *flat) isClient(site int) bool { return site >= 1 && site <= f.clients }

func wordsMayBe(words string) bool {
	return len(words) >= 1 && len(words) <= 120 && plainText(words)
}

func plainText(words string) bool {
	return strings.IndexFunc(words, func(c rune) bool { return c < 32 || c > 126 }) < 0
}

func (f *flat) note(n []int, rest string) string {
	if !f.isClient(n[0]) {
		return "error 160"
	}
	return f.read(n[0], func(text []api.Elem) string {
		switch {
		case n[1] >= n[2] || n[2] > len(text):
			return "error 230"
		case !wordsMayBe(rest):
			return "error 231"
		case f.given == 256:
			return "error 234"
		}
		f.given++
		f.slips = append(f.slips, &slip{id: f.given, client: n[0], words: rest, elems: slices.Clone(text[n[1]:n[2]])})
		return fmt.Sprintf("note %d", f.given)
	})
}

func (f *flat) slip(id int) *slip {
	i := slices.IndexFunc(f.slips, func(s *slip) bool { return s.id == id })
	if i < 0 {
		return nil
	}
	return f.slips[i]
}

func (f *flat) reply(n []int, rest string) string {
	if !f.isClient(n[0]) {
		return "error 160"
	}
	switch s := f.slip(n[1]); {
	case s == nil:
		return "error 232"
	case !wordsMayBe(rest):
		return "error 231"
	case s.shut:
		return "error 233"
	default:
		s.replies++
		return "ok"
	}
}

func (f *flat) shut(n []int, _ string) string {
	switch s := f.slip(n[0]); {
	case s == nil:
		return "error 232"
	case s.shut:
		return "error 233"
	default:
		s.shut = true
		return "ok"
	}
}

// span tells from where to where a note stands; 0 and 0: nothing of it is left.
func (s *slip) span(text []api.Elem) (int, int) {
	from, to := 0, 0
	for i, x := range text {
		if slices.Contains(s.elems, x) {
			if to == 0 {
				from = i
			}
			to = i + 1
		}
	}
	return from, to
}

func (f *flat) look(n []int, _ string) string {
	return f.read(n[0], func(text []api.Elem) string {
		s := f.slip(n[1])
		if s == nil {
			return "error 232"
		}
		where, state := "gone", "open"
		if from, to := s.span(text); to > 0 {
			where = fmt.Sprintf("%d-%d", from, to)
		}
		if s.shut {
			state = "shut"
		}
		return fmt.Sprintf("note %d by %d %s %s %d %s", s.id, s.client, where, state, s.replies, s.words)
	})
}

func (f *flat) all(n []int, _ string) string {
	return f.read(n[0], func(text []api.Elem) string {
		open, gone := len(f.slips), 0
		for _, s := range f.slips {
			if s.shut {
				open--
			}
			if _, to := s.span(text); to == 0 {
				gone++
			}
		}
		return fmt.Sprintf("notes %d open %d gone %d", len(f.slips), open, gone)
	})
}

func (f *flat) at(n []int, _ string) string {
	return f.read(n[0], func(text []api.Elem) string {
		answer := "at"
		for _, s := range f.slips {
			if from, to := s.span(text); !s.shut && from <= n[1] && n[1] < to {
				answer += fmt.Sprintf(" %d", s.id)
			}
		}
		return answer
	})
}

func (f *flat) sweep(n []int, _ string) string {
	return f.read(n[0], func(text []api.Elem) string {
		before := len(f.slips)
		f.slips = slices.DeleteFunc(f.slips, func(s *slip) bool {
			_, to := s.span(text)
			return s.shut && to == 0
		})
		return fmt.Sprintf("ok %d", before-len(f.slips))
	})
}

func (f *flat) find(n []int, rest string) string {
	return f.read(n[0], func(text []api.Elem) string {
		if len(rest) < 1 || len(rest) > 64 || !plainText(rest) {
			return "error 240"
		}
		answer := "places"
		for i := range text {
			if strings.HasPrefix(doc.Text(text[i:]), rest) {
				answer += fmt.Sprintf(" %d", i)
			}
		}
		return answer
	})
}

func (f *flat) swap(n []int, rest string) string {
	if n[1] > len(rest) {
		return "error 250"
	}
	if !f.isClient(n[0]) {
		return "error 160"
	}
	return f.read(n[0], func(text []api.Elem) string {
		pattern, by := rest[:n[1]], rest[n[1]:]
		if len(pattern) < 1 || len(pattern) > 64 || len(by) > 64 || !plainText(rest) {
			return "error 240"
		}
		now := doc.Text(text)
		if strings.Count(now, pattern)*len(rest) > 64 {
			return "error 222"
		}
		return f.room.Say(fmt.Sprintf("replace %d %s", n[0], strings.ReplaceAll(now, pattern, by)))
	})
}

func (f *flat) words(n []int, _ string) string {
	return f.read(n[0], func(text []api.Elem) string {
		all := regexp.MustCompile(`[a-zA-Z]+`).FindAllString(doc.Text(text), -1)
		slices.Sort(all)
		answer := "words"
		for len(all) > 0 {
			next := slices.IndexFunc(all, func(w string) bool { return w != all[0] })
			if next < 0 {
				next = len(all)
			}
			answer += fmt.Sprintf(" %s:%d", all[0], next)
			all = all[next:]
		}
		return answer
	})
}

func (f *flat) merge(n []int, rest string) string {
	past, _ := revision.Open(f.room.Disk())
	text, e := branch.Merge(past, n[0], rest)
	if e != api.OK {
		return wrong(e)
	}
	return "merged " + text
}

func (f *flat) lost(n []int, rest string) string {
	past, _ := revision.Open(f.room.Disk())
	lost, e := branch.Lost(past, n[0], rest)
	if e != api.OK {
		return wrong(e)
	}
	return fmt.Sprintf("lost %d", lost)
}

// editsOn gives the edits that lie on a disk, as far as its log is whole and they can stand.
func editsOn(disk []byte) []api.Edit {
	payloads, _, _ := wal.Scan(disk)
	var edits []api.Edit
	for _, p := range payloads {
		x, err := wire.DecodeItem(p)
		if err != nil {
			break
		}
		if x.Kind == api.LEdit {
			edits = append(edits, api.Edit{Tag: x.Tag, Op: x.Op})
		}
	}
	done, _, _ := book.Replay(edits)
	return edits[:len(done)]
}

func (f *flat) save([]int, string) string {
	f.kept, f.edits = true, editsOn(f.room.Disk())
	return fmt.Sprintf("saved %d", len(f.edits))
}

// resume lays what is behind the saved edits on the disk now behind those that were saved.
func (f *flat) resume([]int, string) string {
	if !f.kept {
		return "error 253"
	}
	now := editsOn(f.room.Disk())
	now = now[min(len(now), len(f.edits)):]
	done, text, err := book.Replay(append(slices.Clone(f.edits), now...))
	if err != nil {
		return wrong(api.Code(err))
	}
	return fmt.Sprintf("resumed %d %s", len(done), doc.Text(text))
}

// mixedText gives a short text, sometimes one that may not be.
func mixedText(d *rand.Rand) string {
	if d.IntN(25) == 0 {
		return pick(d, "\t", "é", strings.Repeat("q", 65), strings.Repeat("ab", 61), strings.Repeat("z", 600), "a\nb")
	}
	b := make([]byte, d.IntN(5))
	for i := range b {
		b[i] = "aabc B "[d.IntN(7)]
	}
	return string(b)
}

func mixedName(d *rand.Rand) string {
	if d.IntN(30) == 0 {
		return pick(d, "", "A", "a1", "abcdefghijklm", "none", "é")
	}
	return pick(d, "a", "a", "a", "b", "b", "cc", "abcdefghijkl")
}

func mixedNumber(d *rand.Rand, below int) string {
	if d.IntN(40) == 0 {
		return pick(d, "", "01", "-1", "x", "1234567", "999999", "65", "٣")
	}
	return strconv.Itoa(d.IntN(below))
}

// mixedIn gives a line for a room.
func mixedIn(d *rand.Rand) string {
	site := mixedNumber(d, 4)
	switch d.IntN(14) {
	case 0, 1, 2:
		return "type " + site + " " + mixedText(d)
	case 3:
		return "move " + site + " " + mixedNumber(d, 6)
	case 4:
		return "erase " + site + " " + pick(d, "1", "2", "-1", "-2")
	case 5, 6, 7:
		return pick(d, "round", "round", "tick 0", "tick 1", "tick 2")
	case 8, 9, 10:
		return pick(d, "all", "all", "all", "deliver 0", "drop 0", "double 0")
	case 11:
		return pick(d, "crash 0 0 0", "crash 17 0 0", "crash 20 3 1", "crash 9 0 0", "boot", "boot", "boot")
	case 12:
		return pick(d, "undo ", "redo ", "show ", "pending ", "left ") + site
	}
	return pick(d, "told", "judge", "past "+mixedNumber(d, 9), "blame "+mixedNumber(d, 9), "", " ", "shout", "list", "flip 0 3 7")
}

// mixedLine gives a line for a shelf.
func mixedLine(d *rand.Rand) string {
	name, site := " "+mixedName(d), " "+mixedNumber(d, 4)
	switch d.IntN(24) {
	case 0:
		return "open" + name + " " + mixedNumber(d, 4)
	case 1:
		return pick(d, "list", "list", "list", "close"+name, "list ", "", "\n", "show a 1", "close")
	case 2, 3:
		return "note" + name + site + " " + mixedNumber(d, 4) + " " + mixedNumber(d, 7) + " " + mixedText(d)
	case 4:
		return "reply" + name + site + " " + mixedNumber(d, 6) + " " + mixedText(d)
	case 5:
		return "shut" + name + " " + mixedNumber(d, 6)
	case 6:
		return pick(d, "look", "at") + name + site + " " + mixedNumber(d, 6)
	case 7:
		return pick(d, "notes", "words", "sweep") + name + site
	case 8, 9:
		return "find" + name + site + " " + mixedText(d)
	case 10:
		return "swap" + name + site + " " + mixedNumber(d, 4) + " " + mixedText(d)
	case 11:
		return pick(d, "merge", "lost") + name + " " + mixedNumber(d, 6) + " " + mixedText(d)
	case 12:
		return pick(d, "save", "resume", "resume") + name
	case 13:
		return pick(d, "in"+name, "in"+name+" ", "save"+name+" x", "find"+name+site, "look"+name+site)
	}
	return "in" + name + " " + mixedIn(d)
}

// TestModel: mixed lines are answered by shelf and model alike.
func TestModel(t *testing.T) {
	seen := map[string]int{}
	for seed := range 150 {
		d := dice(seed)
		s, h := shelf.New(), &house{}
		for step := range 400 {
			line := mixedLine(d)
			got, want := s.Say(line), h.say(line)
			if got != want {
				t.Fatalf("P25.1: seed %d, step %d: %.80q is answered by %.200q, want %.200q", seed, step, line, got, want)
			}
			if strings.Contains(got, "\n") {
				t.Fatalf("P25.1: seed %d, step %d: %.80q is answered by more than a line: %q", seed, step, line, got)
			}
			verb, _, _ := strings.Cut(line, " ")
			kind, _, _ := strings.Cut(got, " ")
			if kind == "error" {
				kind = got
			}
			seen[verb+": "+kind]++
		}
	}
	for _, x := range []string{"open: ok", "open: error 252", "open: error 151", "close: ok", "note: note", "note: error 160", "note: error 230", "note: error 231", "reply: ok", "reply: error 160", "reply: error 232", "reply: error 233", "shut: ok", "shut: error 233", "look: note", "look: error 232", "look: error 161", "at: at", "notes: notes", "sweep: ok", "find: places", "find: error 240", "find: error 161", "swap: ok", "swap: error 250", "swap: error 160", "swap: error 240", "words: words", "merge: merged", "merge: error 220", "merge: error 221", "lost: lost", "save: saved", "resume: resumed", "resume: error 253"} {
		if seen[x] == 0 {
			t.Errorf("the mixed lines never came to %q", x)
		}
	}
}

// dyingServer gives the lines of a text whose server dies between a save and the next sync, and hears its clients in another order when it is up again.
func dyingServer(d *rand.Rand, clients int) []string {
	var lines []string
	say := func(verbs ...string) {
		for _, v := range verbs {
			lines = append(lines, "in a "+v)
		}
	}
	for _, c := range d.Perm(clients) {
		site := strconv.Itoa(c + 1)
		say(pick(d, "type "+site+" ab", "type "+site+" c", "erase "+site+" 1", "show "+site, "replace "+site+" xy", "move "+site+" 1"))
		say("tick "+site, "all")
	}
	lines = append(lines, pick(d, "save a", "save a", "list"), "resume a")
	say(pick(d, "crash 0 0 0", "crash 17 0 0", "crash 17 5 1", "crash 34 0 0", "round"), fmt.Sprintf("type %d %s", 1+d.IntN(clients), pick(d, "z", "zzzz")), "boot")
	lines = append(lines, "resume a")
	for _, c := range d.Perm(clients) {
		for range 2 {
			say("tick 0", "all", fmt.Sprint("tick ", c+1), "all")
		}
		lines = append(lines, "resume a", "merge a 2 zb", "lost a 2 z")
	}
	say("round", "all", "round", "all", "round", "all")
	return append(lines, "resume a")
}

// TestModelSaves: what was saved and lost is told by the model too.
func TestModelSaves(t *testing.T) {
	seen := map[string]int{}
	for seed := range 40 {
		d := dice(10000 + seed)
		s, h := shelf.New(), &house{}
		clients := 2 + d.IntN(3)
		lines := []string{fmt.Sprint("open a ", clients), "in a round", "in a all", "in a round", "in a all", "in a round", "in a all"}
		for range 4 {
			lines = append(lines, dyingServer(d, clients)...)
		}
		for step, line := range lines {
			got, want := s.Say(line), h.say(line)
			if got != want {
				t.Fatalf("P25.1: seed %d, step %d: %q is answered by %q, want %q", seed, step, line, got, want)
			}
			if strings.HasPrefix(got, "error ") {
				seen[line+": "+got]++
			}
		}
	}
	for _, e := range []api.Errno{api.ErrDone, api.ErrTurn} {
		if seen["resume a: "+wrong(e)] == 0 {
			t.Errorf("no resume came to %v: %v", e, seen)
		}
	}
}
