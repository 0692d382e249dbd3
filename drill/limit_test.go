package drill_test

import (
	"fmt"
	"strings"
	"testing"

	"jotter/api"
	"jotter/drill"
)

// TestMaxScript: one byte more than may be is told ahead of all else.
func TestMaxScript(t *testing.T) {
	for _, begin := range []string{"clients 1\n#", "\n", "", "round\n#", "clients 1\nend\n#", "clients 1\nx", "clients 1\nexpect "} {
		full := begin + repeated(api.MaxScript-len(begin), "y")
		if api.Code(second(full)) == api.ErrScript {
			t.Errorf("P29.1: %d bytes, %.20q, are refused", len(full), full)
		}
		refused(t, "P29.1", full+"y", api.MaxScript, api.ErrScript)
		refused(t, "P29.1", full+"\n", api.MaxScript, api.ErrScript)
		refused(t, "P29.1", full+repeated(1<<20, "\n"), api.MaxScript, api.ErrScript)
	}
	long := repeated(api.MaxScript-len("clients 1\n"), "x")
	unrolled(t, "P29.2", "clients 1\n"+long, say(1, long))
	if flat, err := drill.Flat("clients 1\n" + long); err != nil || flat != "clients 1\n"+long+"\n" {
		t.Errorf("P29.4: of one long step: %d bytes, %v", len(flat), err)
	}
	unrolled(t, "P29.1", "clients 1"+repeated(api.MaxScript-9, "\n"))
	unrolled(t, "P29.1", repeated(api.MaxScript-9, " ")+"clients 1")
	refused(t, "P29.1", repeated(api.MaxScript, "\n"), 0, api.ErrHead0)
	refused(t, "P29.1", repeated(api.MaxScript, " "), 0, api.ErrHead0)
	refused(t, "P29.1", "clients 1\n"+repeated(65522, "\n")+"end", 65523, api.ErrBlock)
	refused(t, "P29.1", "clients 1\nrepeat"+repeated(60000, " "), 1, api.ErrCount)
}

// second gives the error of Unroll.
func second(text string) error {
	_, _, err := drill.Unroll(text)
	return err
}

// TestMaxDrill: 4096 steps may be, said or wanted, of one line or of many.
func TestMaxDrill(t *testing.T) {
	x4095 := "for s 1 1000\nx$s\nexpect $s\ny\nexpect\nend\nrepeat 95\nx\nend\n" // lines 1 to 9
	for text, steps := range map[string]int{
		"clients 1\n" + repeated(4096, "x\n"):                                  4096,
		"clients 1\nrepeat 1000\n" + repeated(4, "x\n") + "end":                4000,
		"clients 1\n" + x4095 + "x":                                            4096,
		"clients 1\n" + x4095 + "expect":                                       4096,
		"clients 1\n" + x4095 + "x\nrepeat 0\nx\nexpect\nend":                  4096,
		"clients 1\n" + x4095 + "x\nrepeat 1000\nend\ndef a\nx\nend":           4096,
		"clients 1\ndef a\nrepeat 64\nx\nend\nend\n" + repeated(64, "use a\n"): 4096,
	} {
		got, _, err := drill.Unroll(text)
		if err != nil || len(got) != steps {
			t.Errorf("P29.1: Unroll(%.100q): %d steps, %v, want %d", text, len(got), err, steps)
		}
	}
	refused(t, "P29.1", "clients 1\n"+repeated(4097, "x\n"), 4097, api.ErrWhole)
	refused(t, "P29.1", "clients 1\n"+repeated(8000, "x\n"), 4097, api.ErrWhole)
	refused(t, "P29.1", "clients 1\n"+x4095+"x\n\nx", 12, api.ErrWhole)
	refused(t, "P29.1", "clients 1\n"+x4095+"x\nexpect", 11, api.ErrWhole)
	refused(t, "P29.1", "clients 1\n"+x4095+"repeat 1\nrepeat 2\nx\nend\nend", 12, api.ErrWhole)
	refused(t, "P29.1", "clients 1\ndef a\n\nx\nend\n"+x4095+"use a\nuse a", 3, api.ErrWhole)
	refused(t, "P29.1", "clients 1\nrepeat 1000\nrepeat 4\nx\nend\nend\nrepeat 97\nx\nend", 7, api.ErrWhole)
}

// idle gives lines that make so many turns and no step.
func idle(turns int) string {
	text := ""
	for turns > 0 {
		times := min(turns-1, api.MaxTimes)
		text += fmt.Sprintf("repeat %d\nend\n", times)
		turns -= times + 1
	}
	return text
}

// TestMaxTurns: each turn that is the one too many, by what it is.
func TestMaxTurns(t *testing.T) {
	const defs = "clients 1\ndef a\nend\ndef b\nrepeat 2\nuse a\nend\nend\n"
	const repeatOfB, useInB = -4, -5
	for text, turns := range map[string][]int{ // the line of each turn: from the text's first one on, or below 0 in the body of b
		"repeat 0\nend":                          {0},
		"repeat 0\nrepeat 5\nend\nend":           {0},
		"repeat 1\nend":                          {0, 0},
		"repeat 3\nend":                          {0, 0, 0, 0},
		"for s 5 4\nend":                         {0},
		"for s 0 0\nend":                         {0, 0},
		"for s 7 9\nend":                         {0, 0, 0, 0},
		"use a":                                  {0, 0},
		"use a\nuse a":                           {0, 0, 1, 1},
		"repeat 2\n\nfor s 1 1\nuse a\nend\nend": {0, 0, 2, 2, 3, 3, 0, 2, 2, 3, 3},
		"for s 0 2\nrepeat $s\nend\nend":         {0, 0, 1, 0, 1, 1, 0, 1, 1, 1},
		"use b":                                  {0, 0, repeatOfB, repeatOfB, useInB, useInB, repeatOfB, useInB, useInB},
	} {
		for spare := range len(turns) + 2 {
			begin := defs + idle(api.MaxTurns-spare)
			first, last := strings.Count(begin, "\n"), strings.Count(begin+text, "\n")
			refused(t, "P29.1", begin+"expect x\n"+text, first, api.ErrWant)
			refused(t, "P29.1", begin+text+"\nend", last+1, api.ErrBlock)
			if spare >= len(turns) {
				unrolled(t, "P29.1", begin+text)
				unrolled(t, "P29.1", begin+text+"\nx", say(last+1, "x"))
				continue
			}
			at := first + turns[spare]
			if turns[spare] < 0 {
				at = -turns[spare]
			}
			refused(t, "P29.1", begin+text, at, api.ErrWhole)
			refused(t, "P29.1", begin+text+"\nexpect x", at, api.ErrWhole)
		}
	}
	unrolled(t, "P29.1", "clients 1\n"+idle(api.MaxTurns))
	refused(t, "P29.1", "clients 1\n"+idle(api.MaxTurns+1), strings.Count(idle(api.MaxTurns+1), "\n")-1, api.ErrWhole)
}

// TestTurnsOfTwo: how many turns two blocks make, one in the other.
func TestTurnsOfTwo(t *testing.T) {
	for _, a := range []int{0, 1, 2, 63, 64, 65, 66, 127, 128, 253, 254, 255, 256, 257, 500, 996, 999, 1000} {
		for _, b := range []int{0, 1, 2, 63, 64, 65, 252, 253, 254, 255, 256, 65534/max(a, 1) - 2, 65535/max(a, 1) - 2, 65535/max(a, 1) - 1, 1000} {
			if b < 0 || b > 1000 {
				continue
			}
			text := lines(fmt.Sprint("repeat ", a), fmt.Sprint("for s 1 ", b), "end", "end")
			switch turns := 1 + a + a*(1+b); {
			case turns <= api.MaxTurns:
				unrolled(t, "P29.1", text)
			case (api.MaxTurns-1)%(2+b) == 0:
				refused(t, "P29.1", text, 1, api.ErrWhole)
			default:
				refused(t, "P29.1", text, 2, api.ErrWhole)
			}
		}
	}
}

// TestDeep: blocks in blocks, and names in names, as deep as a text has room for.
func TestDeep(t *testing.T) {
	deep := 5000
	text := "clients 1\n" + repeated(deep, "repeat 1\n") + "x\n" + repeated(deep, "end\n")
	unrolled(t, "P29.1", text, say(deep+1, "x"))
	refused(t, "P29.1", strings.TrimSuffix(text, "end\n"), 1, api.ErrBlock)
	refused(t, "P29.1", "clients 1\n"+repeated(7000, "repeat 1\n"), 7000, api.ErrBlock)
	refused(t, "P29.1", text+"end", 2*deep+2, api.ErrBlock)
	refused(t, "P29.1", "clients 1\n"+repeated(deep, "repeat 2\n")+repeated(deep, "end\n"), deep, api.ErrWhole)
	for depth := range 20 {
		sameAsModel(t, "clients 1\n"+repeated(depth, "repeat 2\n")+repeated(depth, "end\n"))
	}

	chain := "clients 1\ndef " + nameOf(0) + "\nx\nend\n"
	for n := 1; n < 2500; n++ {
		chain += fmt.Sprintf("def %s\nuse %s\nend\n", nameOf(n), nameOf(n-1))
	}
	unrolled(t, "P29.1", chain+"use "+nameOf(2499), say(2, "x"))
	// Each name says the one ahead twice: so few lines are more steps than anybody can say.
	for _, body := range []string{"x\n", ""} {
		twice := "clients 1\ndef " + nameOf(0) + "\n" + body + "end\n"
		for n := 1; n < 200; n++ {
			twice += fmt.Sprintf("def %s\nuse %[2]s\nuse %[2]s\nend\n", nameOf(n), nameOf(n-1))
		}
		if err := second(twice + "use " + nameOf(199)); api.Code(err) != api.ErrWhole {
			t.Errorf("P29.1: of names that say one another twice: %v", err)
		}
		if steps, _, err := drill.Unroll(twice + "use " + nameOf(12)); err != nil || len(steps) != 4096*len(body)/2 {
			t.Errorf("P29.1: of names that say one another twice: %d steps, %v", len(steps), err)
		}
	}
}

// nameOf gives a name for each number.
func nameOf(n int) string {
	name := string([]byte{byte('a' + n%26)})
	for n /= 26; n > 0; n /= 26 {
		name += string([]byte{byte('a' + n%26)})
	}
	return name
}

// TestGreatSteps: many letters in many long steps.
func TestGreatSteps(t *testing.T) {
	signs := repeated(1500, "$a$b$z")
	text := "clients 1\nfor a 1 64\nfor b 937 1000\n" + signs + "\nend\nend"
	steps, _, err := drill.Unroll(text)
	if err != nil || len(steps) != 4096 || steps[0].Text != repeated(1500, "1937$z") || steps[4095].Text != repeated(1500, "641000$z") {
		t.Errorf("P29.2: %d great steps, %v", len(steps), err)
	}
	flat, err := drill.Flat(text)
	size := len("clients 1\n")
	for _, s := range steps {
		size += len(s.Text) + 1
	}
	if err != nil || len(flat) != size {
		t.Errorf("P29.4: %d bytes, %v, want %d", len(flat), err, size)
	}
}

// TestLongRun: as many steps as may be.
func TestLongRun(t *testing.T) {
	played(t, "P29.3", lines("repeat 1000", "show 1", "expect text 0 ", "expect text 0", "end", "repeat 1000", "move 1 0", "end", "repeat 96", "expect ok 0", "end"), 2000, 1096, func() []int {
		var failed []int
		for range 1000 {
			failed = append(failed, 4)
		}
		return failed
	}()...)
	played(t, "P29.3", "clients 64\nfor s 1 64\nfor n 1 63\ntype $s a\nend\nexpect ok 1\nend", 4032, 64)
}

// TestAnyBytes: whatever a text is, it is answered, alike by all three.
func TestAnyBytes(t *testing.T) {
	for seed := range 3000 {
		r := dice(50000 + seed)
		b := []byte(mixedDrill(r))
		for range 1 + r.IntN(6) {
			switch at := r.IntN(len(b)); r.IntN(3) {
			case 0:
				b[at] = byte(r.IntN(256))
			case 1:
				b = b[:at+1]
			default:
				b[at] = pick(r, []byte("\n $sae01#")...)
			}
		}
		sameAsModel(t, string(b))
	}
	for seed := range 3000 {
		r := dice(60000 + seed)
		b := make([]byte, r.IntN(60))
		for i := range b {
			b[i] = pick(r, []byte("\n\n $sad123#endfor")...)
		}
		sameAsModel(t, string(b))
		sameAsModel(t, "clients 1\n"+string(b))
	}
}
