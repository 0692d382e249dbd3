package drill_test

import (
	"fmt"
	"slices"
	"strings"
	"sync"
	"testing"

	"jotter/api"
	"jotter/drill"
)

// flatSteps gives steps as they stand in a drill that has nothing else: each on the line behind the one ahead.
func flatSteps(steps []api.Drilled) []api.Drilled {
	flat := texts(steps)
	for i := range flat {
		flat[i].Line = i + 1
	}
	return flat
}

// flatIsFlat looks at P29.5 of one drill, which must be right.
func flatIsFlat(t *testing.T, text string) {
	t.Helper()
	steps, clients, err := drill.Unroll(text)
	flat, why := drill.Flat(text)
	if err != nil || why != nil {
		t.Fatalf("P29.4: %v, %v of %.300q", err, why, text)
	}
	if len(flat) > api.MaxScript {
		refused(t, "P29.5", flat, api.MaxScript, api.ErrScript)
		return
	}
	if again, n, err := drill.Unroll(flat); err != nil || n != clients || !slices.Equal(again, flatSteps(steps)) {
		t.Errorf("P29.5: Unroll(%.300q) = %s, %d, %v; flat: %s, %d", text, brief(steps), clients, err, brief(again), n)
	}
	if again, err := drill.Flat(flat); err != nil || again != flat {
		t.Errorf("P29.5: Flat(%.300q) = %.300q, flat again: %.300q, %v", text, flat, again, err)
	}
}

// TestFlatIsFlat: of mixed drills, of those of the room's lines, and of lines with all sorts of bytes.
func TestFlatIsFlat(t *testing.T) {
	looked := 0
	for seed := range 4000 {
		r := dice(2000 + seed)
		text := mixedDrill(r)
		if steps, _, err := drill.Unroll(text); err == nil && len(steps) < 1000 {
			flatIsFlat(t, text)
			looked++
		}
	}
	if looked < 1000 {
		t.Errorf("only %d drills", looked)
	}
	for seed := range 300 {
		r := dice(6000 + seed)
		text := fmt.Sprintf("clients 2\nall\n%s", strings.Join(talked(r, 2), "\n"))
		flatIsFlat(t, text)
		flat, _ := drill.Flat(text)
		one, err := drill.Run(text)
		other, why := drill.Run(flat)
		if err != nil || why != nil || one.Said != other.Said || one.Held != other.Held || len(one.Failed) != len(other.Failed) {
			t.Errorf("P29.5: Run(%q) = %+v, %v, and flat: %+v, %v", text, one, err, other, why)
		}
	}
	for c := range 256 {
		if c == '\n' {
			continue
		}
		b := string([]byte{byte(c)})
		flatIsFlat(t, lines("x", "for s 1 2", b+"$s", "y"+b+"$s", "$s"+b, "expect "+b, "expect "+b+"$s"+b, "end"+b+"$s", "end", "used"+b+"$s"+"x"))
	}
}

// TestBlockIsItsLines: a block, and a name, beside the lines that they stand for, written out by hand.
func TestBlockIsItsLines(t *testing.T) {
	same := func(block, byHand string) {
		t.Helper()
		got, n, err := drill.Unroll(block)
		want, m, why := drill.Unroll(byHand)
		if api.Code(err) != api.Code(why) || n != m || !slices.Equal(texts(got), texts(want)) {
			t.Errorf("P29.6: Unroll(%.300q) = %s, %d, %v, and written out, %.300q: %s, %d, %v", block, brief(got), n, err, byHand, brief(want), m, why)
		}
	}
	for seed := range 3000 {
		r := dice(20000 + seed)
		w := &writer{Rand: r}
		inner := strings.Join(w.lines(2), "\n") + "\n"
		if steps, _, err := drill.Unroll("clients 3\nx\n" + inner); err != nil || len(steps) > 500 {
			continue
		}
		head, tail := pick(r, "clients 3\nx\n", "clients 3\n"), pick(r, "", "y\nexpect $s\n")
		times := r.IntN(5)
		same(fmt.Sprintf("%srepeat %d\n%send\n%s", head, times, inner, tail), head+repeated(times, inner)+tail)
		same(fmt.Sprintf("%sdef name\n%send\nuse name\n%suse name", head, inner, tail), head+inner+tail+inner)
		// No line of the pool counts with v.
		counted := strings.ReplaceAll(inner, "$t", "$v")
		if _, _, err := drill.Unroll(head + "for v 1 1\n" + counted + "end"); err != nil {
			continue
		}
		from, to := r.IntN(4), r.IntN(6)
		byHand := ""
		for n := from; n <= to; n++ {
			byHand += strings.ReplaceAll(counted, "$v", fmt.Sprint(n))
		}
		same(fmt.Sprintf("%sfor v %d %d\n%send\n%s", head, from, to, counted, tail), head+byHand+tail)
		same(fmt.Sprintf("%sdef name\n%send\nfor v %d %d\nuse name\nend\n%s", head, inner, from, to, tail), head+repeated(max(to-from+1, 0), inner)+tail)
	}
}

// TestUsesSeeNoLetters: a body is as if it stood outside of all blocks, however deep its use does.
func TestUsesSeeNoLetters(t *testing.T) {
	unrolled(t, "P29.6", lines("def a", "$s $t", "expect $s", "end", "def b", "for t 1 2", "use a", "$s $t", "end", "end", "for s 5 6", "for u 0 0", "use b", "$s $t $u", "end", "end"),
		say(2, "$s $t"), want(3, "$s"), say(8, "$s 1"), say(2, "$s $t"), want(3, "$s"), say(8, "$s 2"), say(14, "5 $t 0"),
		say(2, "$s $t"), want(3, "$s"), say(8, "$s 1"), say(2, "$s $t"), want(3, "$s"), say(8, "$s 2"), say(14, "6 $t 0"))
}

// TestStepsStandWhereTheirLinesDo: where no number is put in, a step is its line, without its leading spaces.
func TestStepsStandWhereTheirLinesDo(t *testing.T) {
	for seed := range 1000 {
		text := mixedDrill(dice(30000 + seed))
		steps, _, err := drill.Unroll(text)
		if err != nil {
			continue
		}
		list := strings.Split(text, "\n")
		for _, s := range steps {
			l := strings.TrimLeft(list[s.Line], " ")
			if strings.Contains(l, "$") {
				continue
			}
			if s.Want {
				l = strings.TrimPrefix(strings.TrimPrefix(l, "expect"), " ")
			}
			if l != s.Text {
				t.Fatalf("P29.2: seed %d: the step %+v, and its line %q", seed, s, l)
			}
		}
	}
}

// told gives all that the calls answer to a text, as one text.
func told(text string) string {
	steps, clients, err := drill.Unroll(text)
	d, why := drill.Run(text)
	flat, other := drill.Flat(text)
	return fmt.Sprintln(steps, clients, err, d, why, flat, other)
}

// TestTextAlone: the same text is answered alike at all times, whatever is asked beside it.
func TestTextAlone(t *testing.T) {
	var all []string
	for seed := range 60 {
		r := dice(40000 + seed)
		all = append(all, "clients 2\n"+strings.Join(talked(r, 2), "\n"), lines(bend(r, (&writer{Rand: r}).lines(2))...))
	}
	var want []string
	for _, text := range all {
		want = append(want, told(text))
	}
	for i := len(all) - 1; i >= 0; i-- {
		if got := told(all[i]); got != want[i] {
			t.Errorf("P29.7: %.300q is answered by %.300q, and before by %.300q", all[i], got, want[i])
		}
	}
	var ended sync.WaitGroup
	for part := range 8 {
		ended.Go(func() {
			for i := range all {
				at := (i*7 + part*11) % len(all)
				if got := told(all[at]); got != want[at] {
					t.Errorf("P29.7: side by side %.300q is answered by %.300q, alone by %.300q", all[at], got, want[at])
				}
			}
		})
	}
	ended.Wait()
}

// TestMemory: who writes into an answer, or behind it, changes no other.
func TestMemory(t *testing.T) {
	text := lines("def a", "x", "end", "repeat 3", "use a", "expect no", "end")
	before := told(text)
	steps, _, _ := drill.Unroll(text)
	other, _, _ := drill.Unroll(text)
	d, _ := drill.Run(text)
	e, _ := drill.Run(text)
	kept := slices.Clone(other)
	for i := range steps {
		steps[i] = api.Drilled{Line: -1, Text: "spoilt", Want: true}
	}
	for i := range d.Failed {
		d.Failed[i] = -1
	}
	_ = append(steps[:cap(steps)], api.Drilled{})
	spare := steps[:cap(steps)]
	for i := range spare {
		spare[i].Text = "spoilt"
	}
	for i, wide := 0, d.Failed[:cap(d.Failed)]; i < len(wide); i++ {
		wide[i] = -1
	}
	if !slices.Equal(other, kept) || !slices.Equal(e.Failed, []int{6, 6, 6}) || told(text) != before {
		t.Errorf("P0.2, P29.7: an answer that was written into has changed others")
	}
}
