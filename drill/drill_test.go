package drill_test

import (
	"fmt"
	"strings"
	"testing"

	"jotter/api"
	"jotter/drill"
)

// TestExamples: the chapter's, in its order.
func TestExamples(t *testing.T) {
	played(t, "example 1", "clients 1\ntype 1 hi\nshow 1\nexpect text 2 hi\n", 2, 1)
	played(t, "example 1", "clients 1\ntype 1 hi\nshow 1\nexpect text 2 ho\n", 2, 0, 3)
	calm := "clients 2\ndef calm\n  repeat 5\n    round\n    all\n  end\nend\ntype 1 ab\nuse calm\nshow 2\nexpect text 0 ab\n"
	played(t, "example 2", calm, 12, 1)
	if steps, clients, err := drill.Unroll(calm); err != nil || clients != 2 || len(steps) != 13 || steps[0] != say(7, "type 1 ab") || steps[1] != say(3, "round") || steps[12] != want(10, "text 0 ab") {
		t.Errorf("example 2: %v, %d, %v", steps, clients, err)
	}
	unrolled(t, "example 3", lines("for s 1 3", "type $s x", "end", ""), say(2, "type 1 x"), say(2, "type 2 x"), say(2, "type 3 x"))
	unrolled(t, "example 3", lines("for s 2 1", "type $s x", "end", ""))
	unrolled(t, "example 3", lines("for s 1 3", "for t $s 3", "move $s $t", "end", "end"), say(3, "move 1 1"), say(3, "move 1 2"), say(3, "move 1 3"), say(3, "move 2 2"), say(3, "move 2 3"), say(3, "move 3 3"))
	refused(t, "example 4", "", 0, api.ErrHead0)
	refused(t, "example 4", "# x\n\nround\n", 0, api.ErrHead0)
	unrolled(t, "example 4", "  clients 1")
	refused(t, "example 5", lines("end"), 1, api.ErrBlock)
	refused(t, "example 5", lines("repeat 2", "round"), 1, api.ErrBlock)
	refused(t, "example 5", lines("repeat 2", "def a", "end", "end"), 2, api.ErrBlock)
	unrolled(t, "example 5", lines("end "), say(1, "end "))
	refused(t, "example 6", lines("use a"), 1, api.ErrDef)
	refused(t, "example 6", lines("def a", "use a", "end"), 2, api.ErrDef)
	refused(t, "example 6", lines("def a", "end", "def a", "end"), 3, api.ErrDef)
	refused(t, "example 6", lines("use"), 1, api.ErrDef)
	for _, line := range []string{"repeat 1001", "repeat 01", "repeat", "repeat $s", "for s 1 $s"} {
		refused(t, "example 7", lines(line, "end"), 1, api.ErrCount)
	}
	for _, line := range []string{"for ss 1 2", "for s 1"} {
		refused(t, "example 7", lines(line, "end"), 1, api.ErrVar)
	}
	refused(t, "example 7", lines("for s 1 2", "for s 1 2", "end", "end"), 2, api.ErrVar)
	refused(t, "example 8", lines("expect ok"), 1, api.ErrWant)
	refused(t, "example 8", lines("repeat 1000", "repeat 5", "round", "end", "end"), 3, api.ErrWhole)
	refused(t, "example 8", lines("repeat 1000", "repeat 1000", "repeat 1000", "end", "end", "end"), 3, api.ErrWhole)
	unrolled(t, "example 8", lines("repeat 255", "repeat 255", "end", "end"))
	unrolled(t, "example 9", lines("type 1 $x costs $5"), say(1, "type 1 $x costs $5"))
	unrolled(t, "example 9", lines("for x 7 7", "type 1 $x$xx$y$", "end"), say(2, "type 1 77x$y$"))
	unrolled(t, "example 10", lines("def a", "type 1 $s", "end", "for s 1 1", "use a", "end"), say(2, "type 1 $s"))
	for text, flat := range map[string]string{
		"clients 3\nfor s 1 3\ntype $s x\nend\n": "clients 3\ntype 1 x\ntype 2 x\ntype 3 x\n",
		"clients 1\nround\nexpect":               "clients 1\nround\nexpect\n",
	} {
		if got, err := drill.Flat(text); err != nil || got != flat {
			t.Errorf("example 10: Flat(%q) = %q, %v, want %q", text, got, err, flat)
		}
	}
}

// TestHead: the first line that says something, just as a room wants it.
func TestHead(t *testing.T) {
	for clients := 1; clients <= 64; clients++ {
		for _, form := range []string{"clients %d", "clients %d\n", "   clients %d", "\n\n# clients 9\n   \n clients %d\n\n", "#\nclients %d\n#"} {
			text := fmt.Sprintf(form, clients)
			if steps, n, err := drill.Unroll(text); len(steps) != 0 || n != clients || err != nil {
				t.Errorf("P29.1: Unroll(%q) = %v, %d, %v", text, steps, n, err)
			}
		}
	}
	for _, head := range []string{
		"", " ", "\n", "\n\n \n", "#", "# clients 1", "client 1", "clients", "clients ", "clients 0", "clients 65", "clients 100", "clients 1000000", "clients 18446744073709551617", "clients 01", "clients 00", "clients +1", "clients -1", "clients  1", "clients 1 ", "clients 1 1", "clients 1 # one", "clients 1#", "clients 1\r", "clients\t1", "\tclients 1", "\rclients 1", "\x00clients 1", "clients 1\x00", "Clients 1", "clients x", "clients 1x", "clients x1", "clients $s", "clients 1.0", "clients :", "clients 1:", "clients /", "clients 1/", "clients 6:", "clients \uff11", "clients \u0661", "clients1", "\ufeffclients 1", "\xffclients 1",
		"round", "end", "def a", "repeat 1", "expect", "use a", "for s 1 1",
	} {
		for _, form := range []string{"%s", "%s\n", "#\n\n  %s\nclients 1\n", "%s\nround\nend\n"} {
			text := fmt.Sprintf(form, head)
			if strings.Trim(head, " \n") == "" || strings.HasPrefix(head, "#") {
				text = head // what says nothing is no head, and no other line either
			}
			refused(t, "P29.1", text, 0, api.ErrHead0)
		}
	}
	unrolled(t, "P29.1", lines("clients 2", "clients", " clients 1"), say(1, "clients 2"), say(2, "clients"), say(3, "clients 1"))
}

// TestLines: where lines end, what is let go, and what says nothing.
func TestLines(t *testing.T) {
	unrolled(t, "P29.2", lines("", " ", "#", "  #round", "round", "    all  ", "# end", "x #", "\tround", "\t", "\t#", "all\r", ""),
		say(5, "round"), say(6, "all  "), say(8, "x #"), say(9, "\tround"), say(10, "\t"), say(11, "\t#"), say(12, "all\r"))
	unrolled(t, "P29.2", "clients 1\nround", say(1, "round"))
	unrolled(t, "P29.2", "clients 1\nround\n", say(1, "round"))
	unrolled(t, "P29.2", "clients 1\nround\n\n\n", say(1, "round"))
	unrolled(t, "P29.2", "clients 1\n\n\nround\n ", say(3, "round"))
	// No other sign ends a line, and none hides an end.
	unrolled(t, "P29.2", lines("a\r", "b\vc\fd", "e\u0085f\u2028g\u2029h", "i\x85", "j\xe2\x80", "k\xf0", "\xc3", "\x00", "\u010a", "\u0a0a", "\xff\xfe"),
		say(1, "a\r"), say(2, "b\vc\fd"), say(3, "e\u0085f\u2028g\u2029h"), say(4, "i\x85"), say(5, "j\xe2\x80"), say(6, "k\xf0"), say(7, "\xc3"), say(8, "\x00"), say(9, "\u010a"), say(10, "\u0a0a"), say(11, "\xff\xfe"))
	for c := range 256 {
		b := string([]byte{byte(c)})
		text := lines(b+"x", "y"+b)
		switch b {
		case "\n":
			unrolled(t, "P29.2", text, say(2, "x"), say(3, "y"))
		case " ":
			unrolled(t, "P29.2", text, say(1, "x"), say(2, "y "))
		case "#":
			unrolled(t, "P29.2", text, say(2, "y#"))
		default:
			unrolled(t, "P29.2", text, say(1, b+"x"), say(2, "y"+b))
		}
	}
}

// TestOtherLines: what only looks like a word of the table is said.
func TestOtherLines(t *testing.T) {
	for _, line := range []string{"end ", "end x", "end  ", "end end", "ends", "END", "end\t", "end#", "e nd", "def\ta", "defa", "Def a", "repeat\t2", "repeats 2", "Repeat 2", "for\ts 1 2", "fors 1 2", "use\ta", "uses a", "USE a", "expect\tok", "expects ok", "Expect ok", "expect\x00", "$s", "$", "-", "repeat$s 2", "end$s", "x end", "x  end "} {
		unrolled(t, "P29.1", lines(line), say(1, line))
		unrolled(t, "P29.1", lines("  "+line, "repeat 2", line, "end"), say(1, line), say(3, line), say(3, line))
	}
}

// TestWants: the rest behind the first space, all of it.
func TestWants(t *testing.T) {
	unrolled(t, "P29.2", lines("x", "expect", "expect ", "expect  ", "expect a", "expect  a ", "  expect a b  c", "expect expect", "expect end", "expect #", "expect $s$", "expect a\tb\r"),
		say(1, "x"), want(2, ""), want(3, ""), want(4, " "), want(5, "a"), want(6, " a "), want(7, "a b  c"), want(8, "expect"), want(9, "end"), want(10, "#"), want(11, "$s$"), want(12, "a\tb\r"))
	unrolled(t, "P29.2", lines("x", "for s 3 3", "expect $s", "expect $s $t", "expect", "expect $", "end"), say(1, "x"), want(3, "3"), want(4, "3 $t"), want(5, ""), want(6, "$"))
}

// TestNames: which may be, and from where on they are there.
func TestNames(t *testing.T) {
	for _, name := range []string{"a", "z", "abcdefghijkl", "zzzzzzzzzzzz", "def", "end", "use", "for", "repeat", "expect", "clients", "round"} {
		unrolled(t, "P29.1", lines("def "+name, "x", "end", "use "+name), say(2, "x"))
	}
	for _, name := range []string{"", "A", "a1", "1", "a_b", "a-b", "abcdefghijklm", "aB", "é", "aé", "a\t", "a\r", "$s", "`", "{", "a\x00"} {
		refused(t, "P29.1", lines("def "+name, "end"), 1, api.ErrDef)
		refused(t, "P29.1", lines("use "+name), 1, api.ErrDef)
		refused(t, "P29.1", lines("def a", "end", "repeat 0", "use "+name, "end"), 4, api.ErrDef)
	}
	for _, line := range []string{"def", "def ", "def a ", "def  a", "def a b", "use", "use ", "use a ", "use  a", "use a a"} {
		refused(t, "P29.1", lines("def a", "end", line, "end"), 3, api.ErrDef)
	}
	refused(t, "P29.1", lines("for s 1 1", "use $s", "end"), 2, api.ErrDef)
	refused(t, "P29.1", lines("use a", "def a", "end"), 1, api.ErrDef)
	refused(t, "P29.1", lines("def b", "use a", "end", "def a", "use b", "end"), 2, api.ErrDef)
	refused(t, "P29.1", lines("def a", "repeat 1", "use a", "end", "end"), 3, api.ErrDef)
	refused(t, "P29.1", lines("def a", "end", "use b"), 3, api.ErrDef)
	refused(t, "P29.1", lines("def a", "end", "def b", "end", "def a", "end"), 5, api.ErrDef)
	unrolled(t, "P29.1", lines("def a", "x", "end", "def b", "use a", "y", "use a", "end", "use b", "use a"), say(2, "x"), say(6, "y"), say(2, "x"), say(2, "x"))
}

// TestDefOrder: the number of its words, then where it stands, then its name.
func TestDefOrder(t *testing.T) {
	for _, around := range []string{"repeat 1", "for s 1 1", "def b"} {
		for _, line := range []string{"def", "def A b", "def a "} {
			refused(t, "P29.1", lines("def a", "end", around, line, "end", "end"), 4, api.ErrDef)
		}
		for _, line := range []string{"def ", "def A", "def a", "def c", "def b"} {
			refused(t, "P29.1", lines("def a", "end", around, line, "end", "end"), 4, api.ErrBlock)
		}
	}
	refused(t, "P29.1", lines("def a", "repeat 1", "def c", "end", "end", "end"), 3, api.ErrBlock)
}

// TestCounts: which numbers may be, and which letters in their place.
func TestCounts(t *testing.T) {
	wrong := []string{"", "1001", "1010", "2000", "9999", "10000", "999999", "1000000", "4294967297", "18446744073709551617", "00", "01", "001", "0001", "+1", "-1", "-0", "1a", "a", "a1", "s", "1.", "1.0", "0x1", "1_0", "1\r", "\t1", ":", "1:", ":1", "/", "1/", "/1", "\uff11", "\u0661", "$", "$t", "$S", "$1", "$ss", "$s1", "1$s", "$$s", "s$", "$s$", "$\u00e9", "$`", "${"}
	for _, n := range append(wrong, "$s") {
		refused(t, "P29.1", lines("repeat "+n, "end"), 1, api.ErrCount)
		refused(t, "P29.1", lines("for v "+n+" 1", "end"), 1, api.ErrCount)
		refused(t, "P29.1", lines("for v 1 "+n, "end"), 1, api.ErrCount)
	}
	for _, n := range wrong {
		refused(t, "P29.1", lines("for s 1 1", "repeat "+n, "end", "end"), 2, api.ErrCount)
		refused(t, "P29.1", lines("for s 1 1", "for v "+n+" 1", "end", "end"), 2, api.ErrCount)
		refused(t, "P29.1", lines("for s 1 1", "for v 1 "+n, "end", "end"), 2, api.ErrCount)
	}
	for _, line := range []string{"repeat", "repeat 1 ", "repeat  1", "repeat 1 1", "repeat 1 x"} {
		refused(t, "P29.1", lines(line, "end"), 1, api.ErrCount)
	}
	for n := range 1001 {
		for _, form := range []string{"repeat %d", "for v 1 %d", "for v 0 %[1]d", "for v %d 1000"} {
			times := map[string]int{"repeat %d": n, "for v 1 %d": n, "for v 0 %[1]d": n + 1, "for v %d 1000": 1001 - n}[form]
			text := lines(fmt.Sprintf(form, n), "x", "end")
			if steps, _, err := drill.Unroll(text); err != nil || len(steps) != times {
				t.Errorf("P29.1: Unroll(%q): %d steps, %v, want %d", text, len(steps), err, times)
			}
		}
	}
	unrolled(t, "P29.6", lines("for s 0 3", "repeat $s", "$s", "end", "end"), say(3, "1"), say(3, "2"), say(3, "2"), say(3, "3"), say(3, "3"), say(3, "3"))
	unrolled(t, "P29.6", lines("for a 1 2", "for b 2 2", "for c $a $b", "$a$b$c", "end", "end", "end"), say(4, "121"), say(4, "122"), say(4, "222"))
	unrolled(t, "P29.6", lines("for a 999 1000", "for b 998 $a", "$b", "end", "end"), say(3, "998"), say(3, "999"), say(3, "998"), say(3, "999"), say(3, "1000"))
}

// TestLetters: which may stand for a number, and where they do.
func TestLetters(t *testing.T) {
	for _, v := range []string{"", "S", "1", "ss", "$", "$s", "\u00e9", "`", "{", "-", "\xe9", "\t", "s\r"} {
		refused(t, "P29.1", lines("for "+v+" 1 2", "end"), 1, api.ErrVar)
		refused(t, "P29.1", lines("for "+v+" x y", "end"), 1, api.ErrVar)
		refused(t, "P29.1", lines("for t 1 2", "for "+v+" $t $t", "end", "end"), 2, api.ErrVar)
	}
	for _, line := range []string{"for", "for ", "for s", "for s ", "for s 1", "for s 1 2 ", "for s 1 2 3", "for  s 1 2", "for s  1 2", "for s 1  2", "for s 1 2  "} {
		refused(t, "P29.1", lines(line, "end"), 1, api.ErrVar)
	}
	refused(t, "P29.1", lines("for s 1 2", "repeat 2", "for t 1 2", "for s x y", "end", "end", "end", "end"), 4, api.ErrVar)
	refused(t, "P29.1", lines("for s 1 1", "end", "repeat $s", "end"), 3, api.ErrCount)
	refused(t, "P29.1", lines("for s 1 1", "end", "for t $s 1", "end"), 3, api.ErrCount)
	refused(t, "P29.1", lines("def a", "repeat $s", "end", "end", "for s 1 1", "use a", "end"), 2, api.ErrCount)
	unrolled(t, "P29.1", lines("for s 1 1", "$s", "end", "$s", "for s 2 2", "$s", "end"), say(2, "1"), say(4, "$s"), say(6, "2"))
	unrolled(t, "P29.1", lines("def a", "for s 3 4", "$s", "end", "$s", "end", "for s 1 2", "use a", "$s", "end"), say(3, "3"), say(3, "4"), say(5, "$s"), say(9, "1"), say(3, "3"), say(3, "4"), say(5, "$s"), say(9, "2"))
	unrolled(t, "P29.1", lines("for s 5 5", "repeat 1", "for t 6 6", "$s$t$u", "end", "$s$t", "end", "$t$s", "end", "$s"), say(4, "56$u"), say(6, "5$t"), say(8, "$t5"), say(10, "$s"))
	var nested, ends []string
	text := ""
	for v := 'a'; v <= 'z'; v++ {
		nested, ends = append(nested, fmt.Sprintf("for %c %d %[2]d", v, v-'a')), append(ends, "end")
		text += "$" + string(v) + ","
	}
	unrolled(t, "P29.2", lines(strings.Join(nested, "\n"), text, strings.Join(ends, "\n")), say(27, "0,1,2,3,4,5,6,7,8,9,10,11,12,13,14,15,16,17,18,19,20,21,22,23,24,25,"))
}

// TestFilled: what in a line is a letter's sign, and what is not.
func TestFilled(t *testing.T) {
	for line, filled := range map[string]string{
		"$s": "12", "$s$s": "1212", "$t$s": "712", "$$s": "$12", "$$": "$$", "$$$s$$": "$$12$$", "$ s": "$ s", "s$": "s$", "$S": "$S", "$st": "12t", "$ss": "12s", "s$s": "s12", "$u": "$u", "$\u00e9": "$\u00e9", "\\$s": "\\12", "x$s #$t": "x12 #7", "$s end": "12 end", "$12": "$12", "$s2$t": "1227", "$\x00s": "$\x00s", "${s}": "${s}", "end $s": "end 12", "type $s $t $": "type 12 7 $", "$s\xff$t": "12\xff7",
	} {
		unrolled(t, "P29.2", lines("for s 12 12", "for t 7 7", line, "expect "+line, "end", "end"), say(3, filled), want(4, filled))
		unrolled(t, "P29.2", lines("for t 7 7", "for s 12 12", line, "expect "+line, "end", "end"), say(3, filled), want(4, filled))
		unrolled(t, "P29.2", lines(line, "expect "+line), say(1, line), want(2, line))
	}
}

// TestEnds: what begins must end, and nothing else.
func TestEnds(t *testing.T) {
	for _, begin := range []string{"def a", "repeat 0", "repeat 2", "for s 1 2", "for s 2 1"} {
		refused(t, "P29.1", lines(begin), 1, api.ErrBlock)
		refused(t, "P29.1", lines("", begin, "", "x", "#"), 2, api.ErrBlock)
		refused(t, "P29.1", lines(begin, "end", "end"), 3, api.ErrBlock)
		refused(t, "P29.1", lines(begin, "repeat 1"), 2, api.ErrBlock)
		refused(t, "P29.1", lines(begin, "repeat 1", "end"), 1, api.ErrBlock)
		refused(t, "P29.1", lines(begin, "repeat 1", "end", "for t 1 1", "x"), 4, api.ErrBlock)
		refused(t, "P29.1", lines(begin, "repeat 1", "for t 1 1", "end"), 2, api.ErrBlock)
		refused(t, "P29.1", lines(begin, "end ", "end x"), 1, api.ErrBlock)
		refused(t, "P29.1", lines(begin, "#end", "end\r"), 1, api.ErrBlock)
		if _, _, err := drill.Unroll(lines(begin, "  end")); err != nil {
			t.Errorf("P29.1: %q and an end: %v", begin, err)
		}
	}
	refused(t, "P29.1", lines("end", "repeat 1"), 1, api.ErrBlock)
	refused(t, "P29.1", lines("round", "", "end"), 3, api.ErrBlock)
}

// TestFirstWrongLine: lines are looked at in their order, wherever they stand, and all of them ahead of going through any.
func TestFirstWrongLine(t *testing.T) {
	wrong := []struct {
		line string
		e    api.Errno
	}{{"use no", api.ErrDef}, {"repeat", api.ErrCount}, {"for", api.ErrVar}, {"for s 1 x", api.ErrCount}, {"def", api.ErrDef}}
	for _, a := range wrong {
		for _, b := range wrong {
			refused(t, "P29.1", lines("x", a.line, b.line, "end"), 2, a.e)
			refused(t, "P29.1", lines("repeat 0", a.line, "end", b.line), 2, a.e)
			refused(t, "P29.1", lines("def n", "repeat 1", a.line, b.line), 3, a.e)
		}
		refused(t, "P29.1", lines("expect x", "x", a.line), 3, a.e)
		refused(t, "P29.1", lines("repeat 1000", "repeat 1000", "x", "end", "end", a.line), 6, a.e)
		refused(t, "P29.1", lines(a.line, "repeat 1"), 1, a.e)
	}
	refused(t, "P29.1", lines("expect x", "repeat 1"), 2, api.ErrBlock)
	refused(t, "P29.1", lines("repeat 1000", "repeat 1000", "x", "end", "end", "end"), 6, api.ErrBlock)
}

// TestWant: one that is come to ahead of any that is said.
func TestWant(t *testing.T) {
	refused(t, "P29.1", lines("", "expect", "x"), 2, api.ErrWant)
	refused(t, "P29.1", lines("repeat 0", "x", "end", "expect a", "x"), 4, api.ErrWant)
	refused(t, "P29.1", lines("def a", "x", "end", "expect a", "use a"), 4, api.ErrWant)
	refused(t, "P29.1", lines("def a", "expect a", "x", "end", "use a"), 2, api.ErrWant)
	refused(t, "P29.1", lines("for s 2 1", "expect a", "end", "for s 1 1", "expect b", "end"), 5, api.ErrWant)
	unrolled(t, "P29.1", lines("repeat 0", "expect a", "end", "for s 2 1", "expect a", "end", "def a", "expect b", "end"))
	unrolled(t, "P29.1", lines("def a", "expect b", "end", "x", "use a", "use a"), say(4, "x"), want(2, "b"), want(2, "b"))
	unrolled(t, "P29.1", lines("repeat 2", "x", "expect a", "end"), say(2, "x"), want(3, "a"), say(2, "x"), want(3, "a"))
}

// TestRun: what was said, what held, and each time that something failed.
func TestRun(t *testing.T) {
	played(t, "P29.3", "clients 1", 0, 0)
	played(t, "P29.3", lines("x", "expect error 200", "expect error 200", "expect", "expect error 200 ", "round"), 2, 2, 4, 5)
	played(t, "P29.3", lines("told", "expect told 0 ", "expect told 0", "expect  told 0 "), 1, 1, 3, 4)
	played(t, "P29.3", lines("for n 1 3", "type 1 $n", "expect ok 1", "expect ok $n", "end", "show 1", "expect text 3 123"), 4, 5, 4, 4)
	played(t, "P29.3", lines("def a", "expect ok 0", "end", "move 1 0", "use a", "type 1 x", "use a", "use a", "move 1 0", "use a"), 3, 2, 2, 2)
	played(t, "P29.3", lines("repeat 3", "type 1 a", "end", "show 1", "expect text 3 aaa", "erase 1 1", "expect ok 1", "show 1", "expect text 2 aa", "expect text 3 aaa"), 6, 3, 10)
	played(t, "P29.3", lines("end ", "expect error 200", "clients 1", "expect error 200", "type 1 $s", "expect ok 2"), 3, 3)
	played(t, "P29.3", "clients 3\nfor s 1 3\nshow $s\nexpect text 0 \nend\nshow 4\nexpect error 160\ncrash 0 0 0\nexpect ok 0\ntold\nexpect error 161", 6, 6)
	for _, clients := range []int{1, 2, 63, 64} {
		text := fmt.Sprintf("clients %d\nshow %[1]d\nexpect text 0 \nshow %d\nexpect error 160", clients, clients+1)
		played(t, "P29.3", text, 2, 2)
	}
}

// TestFlat: a line for each step, and the space behind expect just where something is wanted.
func TestFlat(t *testing.T) {
	for text, flat := range map[string]string{
		"clients 1":                      "clients 1\n",
		"#\n  clients 64\n\n# x":         "clients 64\n",
		"clients 1\n  round  \n all":     "clients 1\nround  \nall\n",
		lines("x", "expect", "expect "):  "clients 1\nx\nexpect\nexpect\n",
		lines("x", "expect  ", "x#"):     "clients 1\nx\nexpect  \nx#\n",
		lines("x", "expect  a b "):       "clients 1\nx\nexpect  a b \n",
		lines("end ", "clients 2"):       "clients 1\nend \nclients 2\n",
		lines("repeat 0", "x", "end"):    "clients 1\n",
		lines("for s 9 10", "$s", "end"): "clients 1\n9\n10\n",
		lines("def a", "x", "repeat 2", "expect b", "end", "end", "use a"): "clients 1\nx\nexpect b\nexpect b\n",
	} {
		if got, err := drill.Flat(text); err != nil || got != flat {
			t.Errorf("P29.4: Flat(%q) = %q, %v, want %q", text, got, err, flat)
		}
	}
}
