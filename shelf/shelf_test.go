package shelf_test

import (
	"strings"
	"testing"

	"jotter/shelf"
)

// TestExamples: the chapter's, in their order.
func TestExamples(t *testing.T) {
	talk(t, "P25.1, example 1", shelf.New(), "open a 1", "ok", "open a 2", "error 252", "open A 1", "error 251", "open abcdefghijklm 1", "error 251", "open b 0", "error 151", "open b 65", "error 151", "open b", "error 250", "list", "list a:1", "close b", "error 253", "close a", "ok", "list", "list")
	s := shelf.New()
	talk(t, "P25.1, example 2", s, "open a 2", "ok", "in a type 1 one two", "ok 7", "find a 1 o", "places 0 6", "find a 2 o", "places", "find a 3 o", "error 160", "find a 1 ", "error 240")
	talk(t, "P25.1, example 3", s, "note a 1 0 3 first", "note 1", "look a 1 1", "note 1 by 1 0-3 open 0 first", "look a 2 1", "note 1 by 1 gone open 0 first", "in a move 1 0", "ok 0", "in a type 1 x", "ok 1", "look a 1 1", "note 1 by 1 1-4 open 0 first")
	talk(t, "P25.1, example 4", s, "swap a 1 3 onefour", "ok 5", "in a show 1", "text 5 xfour two", "swap a 1 9 one", "error 250")
	talk(t, "P25.1, example 5", s, "reply a 2 1 yes", "ok", "shut a 1", "ok", "look a 1 1", "note 1 by 1 2-3 shut 1 first")
	talk(t, "P25.1, example 6", s, "save a", "saved 0", "resume a", "resumed 0 ", "resume b", "error 253")
	talk(t, "P25.1, example 7", s, "merge a 0 hello", "merged hello", "lost a 0 hello", "lost 0", "merge a 1 x", "error 220")
	talk(t, "P25.1, example 8", shelf.New(), "open a 1", "ok", "open b 1", "ok", "open c 1", "ok", "open d 1", "ok", "open e 1", "ok", "open f 1", "ok", "open g 1", "ok", "open h 1", "ok", "open i 1", "error 254")
	talk(t, "P25.1, example 9", s, "in a shout", "error 200", "in a", "error 250", "in a ", "error 200", "in b show 1", "error 253")
	if got := shelf.Run("open a 1\nlist"); got != "ok\nlist a:1\n" {
		t.Errorf("P25.2, example 10: %q", got)
	}
	if got := shelf.Run(""); got != "" {
		t.Errorf("P25.2, example 10: no line: %q", got)
	}
}

// TestNoSuchLine: what is no verb.
func TestNoSuchLine(t *testing.T) {
	for _, s := range []*shelf.Shelf{shelf.New(), written(t)} {
		want(t, "P25.1", s, "error 250", "", " ", "  ", "List", "LIST", "lis", "lists", " list", "\tlist", "list\t", "list\r", "list ", "list  ", "list a", "list 1", "Open b 1", "show a 1", "told", "type a 1 x", "in", "in ab", "error 250", "a", "a list", "N", "Nn", "ok", "names", "look\x00a 1 1", "\xffopen b 1", "opén b 1", "open,b 1")
	}
}

// TestLineEnds: no line holds one, wherever it stands.
func TestLineEnds(t *testing.T) {
	s := written(t)
	want(t, "P25.1", s, "error 250", "\n", "list\n", "\nlist", "list\nlist", "open b 1\n", "open\nb 1", "open b\n 1")
	for _, line := range rightLines() {
		want(t, "P25.1", s, "error 250", line+"\n", "\n"+line, strings.Replace(line, " ", "\n", 1), strings.Replace(line, " a", " \na", 1), line+"\nx", strings.Replace(line, " a", " A", 1)+"\n", strings.Replace(line, " a", " b", 1)+"\n")
	}
	talk(t, "P25.1", s, "list", "list a:2", "in a show 1", "text 7 one two", "notes a 1", "notes 0 open 0 gone 0", "in a type 1 \r", "error 191")
}

// TestWordCounts: too few and too many words, whatever the name is.
func TestWordCounts(t *testing.T) {
	s := written(t)
	for _, right := range rightLines() {
		for _, name := range []string{"a", "b", "A", "abcdefghijklm", ""} {
			words := strings.Split(right, " ")
			words[1] = name
			for n := 1; n < len(words); n++ {
				want(t, "P25.1", s, "error 250", strings.Join(words[:n], " "))
			}
			if line := strings.Join(words, " "); restAt(words[0]) == 0 {
				want(t, "P25.1", s, "error 250", line+" ", line+" 1", line+" x", line+"  ", line+" 1 2 3 4 5 6", strings.Replace(line, " ", "  ", 1), " "+line)
			}
		}
	}
	talk(t, "P25.1", s, "list", "list a:2", "in a show 1", "text 7 one two", "notes a 1", "notes 0 open 0 gone 0")
}

// wrongNumbers have not the form of one; spaces would cut them.
func wrongNumbers() []string {
	return []string{"", "00", "01", "007", "000000", "1234567", "0000001", "1000000", "-1", "-0", "+1", "+0", "1.", "1.0", "1e3", "0x1", "0b1", "1_0", "x", "a", "1a", "a1", "\t1", "1\t", "1\r", "١", "\xb2", "1,", ":", "/", "99999999999999999999", "18446744073709551617", strings.Repeat("1", 5000), strings.Repeat("0", 5000)}
}

// TestNumberForms: each number of each verb, whatever the name is.
func TestNumberForms(t *testing.T) {
	s := written(t)
	for _, right := range append(rightLines(), "open b 1") {
		words := strings.Split(right, " ")
		last := len(words)
		if n := restAt(words[0]); n > 0 {
			last = n
		}
		for at := 2; at < last; at++ {
			for _, wrong := range wrongNumbers() {
				for _, name := range []string{words[1], "b", "A", ""} {
					line := append([]string(nil), words...)
					line[1], line[at] = name, wrong
					want(t, "P25.1", s, "error 250", strings.Join(line, " "))
				}
			}
		}
	}
	talk(t, "P25.1", s, "list", "list a:2", "in a show 1", "text 7 one two", "notes a 1", "notes 0 open 0 gone 0")
	want(t, "P25.1", s, "error 160", "find a 3 o", "find a 10 o", "find a 100 o", "find a 1000 o", "find a 10000 o", "find a 100000 o", "find a 999999 o")
	want(t, "P25.1", s, "error 151", "open b 0", "open b 65", "open b 66", "open b 100", "open b 640", "open b 999999")
	want(t, "P25.1", s, "at", "at a 1 0", "at a 1 6", "at a 1 7", "at a 1 999999")
	want(t, "P25.1", s, "error 220", "merge a 8 x", "merge a 999999 x", "lost a 8 x", "lost a 999999 x")
	want(t, "P25.1", s, "error 250", "swap a 1 4 one", "swap a 1 999999 one")
}

// wrongNames may not be; spaces would cut them.
func wrongNames() []string {
	return []string{"", "A", "Z", "aB", "Ba", "aBa", "a1", "1", "1a", "a1a", "-", "a-b", "a.b", "_", "a_", "`", "{", "a`b", "a{b", "\t", "a\t", "\x00", "a\x00", "\xff", "é", "aéa", "ａ", "abcdefghijklm", "aaaaaaaaaaaaa", "abcdefghijklA", strings.Repeat("a", 5000)}
}

// TestWrongNames: every verb refuses them, ahead of asking for the text.
func TestWrongNames(t *testing.T) {
	full := shelf.New()
	for _, name := range []string{"b", "c", "d", "e", "f", "g", "h", "i"} {
		talk(t, "P25.1", full, "open "+name+" 1", "ok")
	}
	for _, s := range []*shelf.Shelf{shelf.New(), written(t), full} {
		for _, right := range append(rightLines(), "open a 0", "swap a 1 9 x", "swap a 9 9 x", "find a 99 ", "note a 0 0 0 ", "in a ", "in a shout") {
			for _, name := range wrongNames() {
				want(t, "P25.1", s, "error 251", strings.Replace(right, " a", " "+name, 1))
			}
		}
	}
}

// TestRightNames: a letter at least, twelve at most.
func TestRightNames(t *testing.T) {
	s := shelf.New()
	talk(t, "P25.1", s, "open z 1", "ok", "open abcdefghijkl 2", "ok", "open mnopqrstuvwx 3", "ok", "open yz 4", "ok", "open zzzzzzzzzzzz 64", "ok", "open list 5", "ok", "open ok 1", "ok", "list", "list abcdefghijkl:2 list:5 mnopqrstuvwx:3 ok:1 yz:4 z:1 zzzzzzzzzzzz:64",
		"in zzzzzzzzzzzz type 64 x", "ok 1", "in list type 5 y", "ok 1", "find zzzzzzzzzzzz 64 x", "places 0", "find list 5 x", "places", "find list 5 y", "places 0", "close list", "ok", "find list 5 y", "error 253")
}

// TestNoText: a name that is not there, ahead of all that the verb says.
func TestNoText(t *testing.T) {
	for _, s := range []*shelf.Shelf{shelf.New(), written(t)} {
		for _, right := range append(rightLines(), "swap a 1 9 x", "swap a 9 9 x", "swap a 0 0 ", "find a 99 ", "note a 0 0 0 ", "reply a 0 9 ", "look a 9 9", "in a ", "in a shout", "merge a 9 \x01") {
			if !strings.HasPrefix(right, "open ") {
				want(t, "P25.1", s, "error 253", strings.Replace(right, " a", " b", 1), strings.Replace(right, " a", " aa", 1), strings.Replace(right, " a", " abcdefghijkl", 1))
			}
		}
	}
}

// TestOpen: taken comes ahead of full, full ahead of what the room says.
func TestOpen(t *testing.T) {
	s := shelf.New()
	talk(t, "P25.1", s, "open h 1", "ok", "open g 64", "ok", "open f 2", "ok", "open e 1", "ok", "open d 1", "ok", "open c 1", "ok", "open b 1", "ok",
		"open a 0", "error 151", "open a 65", "error 151", "open b 0", "error 252", "open a 1", "ok",
		"open i 1", "error 254", "open i 0", "error 254", "open i 65", "error 254", "open a 1", "error 252", "open h 0", "error 252", "open I 1", "error 251", "open i", "error 250",
		"list", "list a:1 b:1 c:1 d:1 e:1 f:2 g:64 h:1", "close f", "ok", "close f", "error 253", "open i 0", "error 151", "list", "list a:1 b:1 c:1 d:1 e:1 g:64 h:1", "open i 3", "ok", "open f 1", "error 254", "list", "list a:1 b:1 c:1 d:1 e:1 g:64 h:1 i:3")
}

// TestClose: all that a text has goes with it.
func TestClose(t *testing.T) {
	s := written(t)
	talk(t, "P25.1", s, "note a 1 0 3 n", "note 1", "save a", "saved 7", "resume a", "resumed 7 one two", "open b 1", "ok", "close a", "ok", "in a told", "error 253", "close a", "error 253", "list", "list b:1",
		"open a 1", "ok", "in a told", "told 0 ", "in a show 1", "text 0 ", "in a show 2", "error 160", "look a 1 1", "error 232", "notes a 1", "notes 0 open 0 gone 0", "resume a", "error 253", "merge a 0 x", "merged x", "merge a 1 x", "error 220", "in a type 1 ab", "ok 2", "note a 1 0 1 n", "note 1", "list", "list a:1 b:1")
}

// TestIn: the room has the whole rest, and its answer is the answer.
func TestIn(t *testing.T) {
	s := written(t)
	talk(t, "P25.1", s, "in a type 2 x  y ", "ok 5", "in a show 2", "text 5 x  y one two", "in a  show 2", "error 200", "in a show 2 ", "error 200", "in a", "error 250", "in a ", "error 200", "in a  ", "error 200", "in a list", "error 200", "in a in a told", "error 200", "in a show 3", "error 160", "in a type 1 ", "ok 0", "in a type 1", "error 200", "in a tick 3", "error 160", "in a tick", "error 154",
		"in a told", "told 7 one two", "in a past 3", "past 3 one", "in a blame 7", "blame 1:0-7", "in a judge", "holds", "in a crash 0 0 0", "ok 0", "in a told", "error 161", "in a boot", "ok 0", "in a left 2", "left 59 undo 1 redo 0")
}
