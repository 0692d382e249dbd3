package shelf_test

import (
	"fmt"
	"strings"
	"testing"

	"jotter/shelf"
)

// TestSites: whose text is asked, and who may ask, ahead of what the layer says.
func TestSites(t *testing.T) {
	s := written(t)
	talk(t, "P25.1", s, "in a type 2 new ", "ok 4", "note a 1 0 3 n", "note 1")
	want(t, "P25.1", s, "error 160", "look a 3 1", "look a 3 9", "notes a 3", "at a 3 0", "sweep a 3", "find a 3 o", "find a 3 ", "words a 3", "note a 3 0 1 x", "note a 3 9 9 ", "note a 0 0 1 x", "note a 0 9 9 ", "reply a 3 1 x", "reply a 3 9 ", "reply a 0 1 x", "reply a 0 9 ", "swap a 3 1 ab", "swap a 3 0 ", "swap a 0 1 ab", "swap a 0 0 ", "swap a 64 1 ab", "find a 65 o")
	want(t, "P25.1", s, "error 250", "swap a 0 3 ab", "swap a 3 3 ab", "swap a 1 3 ab", "swap a 1 1 ")
	talk(t, "P25.1", s, "find a 0 e", "places 2", "find a 1 e", "places 2", "find a 2 e", "places 1 6", "words a 0", "words one:1 two:1", "words a 2", "words new:1 one:1 two:1", "look a 0 1", "note 1 by 1 0-3 open 0 n", "look a 2 1", "note 1 by 1 4-7 open 0 n", "at a 0 0", "at 1", "at a 2 0", "at", "notes a 0", "notes 1 open 1 gone 0", "sweep a 0", "ok 0", "in a crash 0 0 0", "ok 0")
	want(t, "P25.1", s, "error 161", "look a 0 1", "look a 0 9", "notes a 0", "at a 0 0", "sweep a 0", "find a 0 e", "find a 0 ", "words a 0")
	want(t, "P25.1", s, "error 160", "note a 0 0 1 x", "reply a 0 1 x", "swap a 0 1 ab", "find a 3 e")
	talk(t, "P25.1", s, "find a 2 e", "places 1 6", "note a 2 0 3 m", "note 2", "reply a 2 1 so", "ok", "swap a 2 3 newold", "ok 6", "in a boot", "ok 0", "find a 0 e", "places 2", "look a 0 2", "note 2 by 2 gone open 0 m")
}

// TestNotes: a board's life in lines.
func TestNotes(t *testing.T) {
	s := written(t)
	talk(t, "P25.1", s, "note a 1 0 0 x", "error 230", "note a 1 2 1 x", "error 230", "note a 1 0 8 x", "error 230", "note a 1 7 8 x", "error 230", "note a 1 0 8 ", "error 230", "note a 1 0 7 ", "error 231", "note a 1 0 7 \t", "error 231", "note a 1 0 7 "+strings.Repeat("w", 121), "error 231",
		"note a 1 0 7  all  of it ", "note 1", "note a 2 4 7 "+strings.Repeat("w", 120), "note 2", "note a 2 3 4  ", "note 3",
		"look a 1 1", "note 1 by 1 0-7 open 0  all  of it ", "look a 2 2", "note 2 by 2 4-7 open 0 "+strings.Repeat("w", 120), "look a 0 3", "note 3 by 2 3-4 open 0  ", "look a 1 4", "error 232", "look a 1 0", "error 232",
		"at a 1 0", "at 1", "at a 1 3", "at 1 3", "at a 0 4", "at 1 2", "at a 2 6", "at 1 2", "at a 2 7", "at",
		"reply a 1 2 a b ", "ok", "reply a 2 2 c", "ok", "reply a 2 2 ", "error 231", "reply a 2 4 x", "error 232", "reply a 2 0 x", "error 232", "look a 1 2", "note 2 by 2 4-7 open 2 "+strings.Repeat("w", 120),
		"shut a 2", "ok", "shut a 2", "error 233", "shut a 4", "error 232", "shut a 0", "error 232", "reply a 1 2 x", "error 233", "look a 1 2", "note 2 by 2 4-7 shut 2 "+strings.Repeat("w", 120), "at a 0 4", "at 1", "notes a 1", "notes 3 open 2 gone 0")
	talk(t, "P25.1", s, "in a move 1 7", "ok 0", "in a erase 1 3", "ok 3", "notes a 1", "notes 3 open 2 gone 1", "notes a 2", "notes 3 open 2 gone 0", "look a 1 2", "note 2 by 2 gone shut 2 "+strings.Repeat("w", 120), "look a 1 1", "note 1 by 1 0-4 open 0  all  of it ", "sweep a 2", "ok 0", "sweep a 1", "ok 1", "sweep a 1", "ok 0", "look a 2 2", "error 232", "notes a 2", "notes 2 open 2 gone 0",
		"in a erase 1 4", "ok 4", "notes a 1", "notes 2 open 2 gone 2", "sweep a 1", "ok 0", "look a 1 3", "note 3 by 2 gone open 0  ", "shut a 1", "ok", "shut a 3", "ok", "notes a 1", "notes 2 open 0 gone 2", "sweep a 1", "ok 2", "notes a 1", "notes 0 open 0 gone 0", "note a 2 0 1 x", "note 4")
}

// TestFullBoard: a text's numbers are its own.
func TestFullBoard(t *testing.T) {
	s := written(t)
	talk(t, "P25.1", s, "open b 1", "ok", "in b type 1 x", "ok 1")
	for i := 1; i <= 256; i++ {
		talk(t, "P25.1", s, "note a 1 0 1 x", fmt.Sprint("note ", i))
	}
	talk(t, "P25.1", s, "note a 1 0 1 x", "error 234", "note a 1 0 0 x", "error 230", "notes a 1", "notes 256 open 256 gone 0", "look a 1 256", "note 256 by 1 0-1 open 0 x", "note b 1 0 1 x", "note 1")
	if got := s.Say("at a 1 0"); !strings.HasPrefix(got, "at 1 2 3 ") || !strings.HasSuffix(got, " 255 256") || strings.Count(got, " ") != 256 {
		t.Errorf("P25.1: 256 notes at one place: %q", got)
	}
}

// TestFind: patterns with spaces, and such as may not be.
func TestFind(t *testing.T) {
	s := joined(t, 1)
	talk(t, "P25.1", s, "in a type 1 aa  aa b", "ok 8", "find a 1 a", "places 0 1 4 5", "find a 1 aa", "places 0 4", "find a 1  ", "places 2 3 6", "find a 1   ", "places 2", "find a 1    ", "places", "find a 1 a ", "places 1 5", "find a 1  b", "places 6", "find a 1 x", "places", "find a 1 aa  aa b", "places 0", "find a 1 aa  aa bb", "places",
		"find a 1 ", "error 240", "find a 1", "error 250", "find a 1 \t", "error 240", "find a 1 \x7f", "error 240", "find a 1 é", "error 240", "find a 1 "+strings.Repeat("a", 64), "places", "find a 1 "+strings.Repeat("a", 65), "error 240",
		"words a 1", "words aa:2 b:1", "in a type 1 BaB1", "ok 4", "words a 1", "words aa:2 bBaB:1", "in a move 1 0", "ok 0", "in a type 1 B a", "ok 3", "words a 1", "words B:1 aa:1 aaa:1 bBaB:1")
}

func TestWords(t *testing.T) {
	for text, want := range map[string]string{"": "words", " ": "words", "12 3": "words", "a": "words a:1", "the cat, The CAT the x1y": "words CAT:1 The:1 cat:1 the:2 x:1 y:1", "b a b a:1": "words a:2 b:2"} {
		s := shelf.New()
		talk(t, "P25.1", s, "open a 1", "ok", "in a type 1 "+text, fmt.Sprint("ok ", len(text)), "words a 1", want, "words a 0", "words")
	}
}

// reads holds a site's text against what it must be.
func reads(t *testing.T, s *shelf.Shelf, site int, text string) {
	t.Helper()
	shown := s.Say(fmt.Sprint("in a show ", site))
	if words := strings.SplitN(shown, " ", 3); len(words) != 3 || words[2] != text {
		t.Fatalf("P25.1: client %d reads %q, want %q", site, shown, text)
	}
}

// TestSwap: the pattern and what comes in its place are one word's two parts; the desk does it.
func TestSwap(t *testing.T) {
	s := written(t)
	swap := func(site int, line, answer, text string) {
		t.Helper()
		talk(t, "P25.1", s, line, answer)
		reads(t, s, site, text)
	}
	swap(2, "swap a 2 1 o0", "ok 4", "0ne tw0")
	reads(t, s, 1, "one two")
	swap(2, "in a undo 2", "ok 4", "one two")
	swap(2, "in a redo 2", "ok 4", "0ne tw0")
	swap(2, "swap a 2 3 ne ", "ok 3", "0tw0")
	swap(2, "swap a 2 1 00", "ok 0", "0tw0")
	swap(2, "swap a 2 4 0tw0", "ok 4", "")
	swap(2, "swap a 2 1 xy", "ok 0", "")
	swap(1, "swap a 1 1 xy", "ok 0", "one two")
	swap(1, "swap a 1 1 o", "ok 2", "ne tw")
	swap(1, "swap a 1 1    ", "ok 1", "ne  tw")
	swap(1, "swap a 1 2  ", "error 250", "ne  tw")
	swap(1, "swap a 1 1  x", "ok 4", "nexxtw")
	swap(1, "swap a 1 2 xx", "ok 2", "netw")
	swap(1, "swap a 1 2 etE  T", "ok 6", "nE  Tw")
	for _, c := range []struct{ line, answer string }{
		{"0 ", "error 240"}, {"0 x", "error 240"}, {"1 n\t", "error 240"}, {"1 \tn", "error 240"}, {"1 é", "error 240"}, {"2 é", "error 240"}, {"3 é", "error 250"},
		{"64 " + strings.Repeat("x", 128), "ok 0"}, {"65 " + strings.Repeat("x", 128), "error 240"}, {"63 " + strings.Repeat("x", 128), "error 240"}, {"65 " + strings.Repeat("x", 64), "error 250"}, {"64 " + strings.Repeat("x", 64), "ok 0"},
	} {
		swap(1, "swap a 1 "+c.line, c.answer, "nE  Tw")
	}
}

// TestSwapSeqs: a client's edits are counted by its desk, not by the operations of the search.
func TestSwapSeqs(t *testing.T) {
	s := shelf.New()
	talk(t, "P25.1", s, "open a 2", "ok", "in a type 1 "+strings.Repeat("ab", 30), "ok 60", "in a left 1", "left 4 undo 1 redo 0", "swap a 1 2 abac", "error 222", "swap a 1 5 babababaX", "error 222", "swap a 1 60 "+strings.Repeat("ab", 30)+strings.Repeat("ab", 3), "error 222", "swap a 1 60 "+strings.Repeat("ab", 30)+strings.Repeat("ab", 2), "error 192",
		"swap a 1 60 "+strings.Repeat("ab", 30)+"abab", "error 192", "in a left 1", "left 4 undo 1 redo 0")
	s = shelf.New()
	talk(t, "P25.1", s, "open a 1", "ok", "in a type 1 "+strings.Repeat("ab", 30)+"c", "ok 61", "swap a 1 3 abcaXc", "ok 2", "in a left 1", "left 1 undo 2 redo 0", "in a show 1", "text 60 "+strings.Repeat("ab", 29)+"aXc", "swap a 1 1 cd", "error 192", "swap a 1 1 c", "ok 1", "in a left 1", "left 0 undo 3 redo 0", "swap a 1 1 ac", "error 192", "swap a 1 1 cd", "ok 0", "swap a 1 2 abcd", "error 222")
}

// TestSwapWide: what no desk replaces is the room's error.
func TestSwapWide(t *testing.T) {
	s := joined(t, 9)
	for site := 1; site < 9; site++ {
		talk(t, "P25.1", s, fmt.Sprintf("in a type %d %s", site, strings.Repeat(string(rune('a'+site)), 64)), "ok 64")
	}
	calm(t, s, "a", 140)
	talk(t, "P25.1", s, "in a type 9 x", "ok 1", "swap a 9 1 xy", "error 196", "swap a 9 1 zy", "error 196", "swap a 9 1 x", "error 196", "swap a 9 0 x", "error 240", "in a undo 9", "ok 1", "swap a 9 1 zy", "ok 0", "swap a 9 2 iihi", "error 222")
}

// TestBranches: what was taken home at a revision of the disk as it is now, synced or not.
func TestBranches(t *testing.T) {
	s := written(t)
	talk(t, "P25.1", s, "merge a 3 one!", "merged one two!", "merge a 7  one  two ", "merged  one  two ", "merge a 7 ", "merged ", "merge a 0 ", "merged one two", "merge a 0 x", "merged one twox", "lost a 7 ", "lost 0", "lost a 7 one", "lost 0", "merge a 8 x", "error 220", "merge a 8 \t", "error 220", "merge a 0 \t", "error 221", "lost a 8 x", "error 220", "lost a 0 \t", "error 221", "merge a 0 "+strings.Repeat("z", 65), "error 221", "lost a 0 "+strings.Repeat("z", 65), "error 221", "merge a 0 "+strings.Repeat("z", 64), "merged one two"+strings.Repeat("z", 64), "merge a 1", "error 250", "lost a 1", "error 250")
	talk(t, "P25.1", s, "in a move 2 3", "ok 0", "in a erase 2 3", "ok 3", "merge a 8 x", "error 220", "in a tick 2", "ok 3", "in a all", "ok 3", "in a told", "told 7 one two", "merge a 10 x", "merged x", "merge a 7 one two", "merged  two", "merge a 7 two", "merged two", "lost a 7 two", "lost 3", "lost a 7 ne two", "lost 1", "lost a 10  two", "lost 0",
		"in a crash 20 0 0", "ok 31", "merge a 9 x", "error 220", "merge a 8 x", "merged x", "merge a 7 one two", "merged on two", "in a boot", "ok 3", "merge a 8 on two", "merged on two")
}

// TestSaves: the last one saved is kept, and stays as it was.
func TestSaves(t *testing.T) {
	s := written(t)
	talk(t, "P25.1", s, "resume a", "error 253", "save a", "saved 7", "resume a", "resumed 7 one two", "in a type 1 !", "ok 1", "resume a", "resumed 7 one two", "in a tick 1", "ok 1", "in a all", "ok 1", "in a told", "told 7 one two", "resume a", "resumed 8 one two!", "resume a", "resumed 8 one two!", "in a crash 0 0 0", "ok 17", "resume a", "resumed 7 one two", "in a boot", "ok 0", "resume a", "resumed 7 one two")
	calm(t, s, "a", 8)
	talk(t, "P25.1", s, "in a told", "told 8 one two!", "resume a", "resumed 8 one two!", "save a", "saved 8", "resume a", "resumed 8 one two!", "open b 1", "ok", "resume b", "error 253", "save b", "saved 0", "resume b", "resumed 0 ", "resume a", "resumed 8 one two!")
}

// TestLostSaves: a crash takes what was saved and not synced, and another edit comes in its place.
func TestLostSaves(t *testing.T) {
	s := written(t)
	talk(t, "P25.1", s, "in a type 1 ab", "ok 2", "in a tick 1", "ok 2", "in a all", "ok 2", "save a", "saved 9", "in a crash 17 0 0", "ok 17", "in a past 9", "error 180", "in a past 8", "past 8 one twoa", "resume a", "resumed 9 one twoab", "in a boot", "ok 0", "resume a", "resumed 9 one twoab", "in a type 2 X", "ok 1")
	for range 2 {
		talk(t, "P25.1", s, "in a tick 0", "ok 2")
		s.Say("in a all")
		talk(t, "P25.1", s, "in a tick 2", "ok 1", "in a all", "ok 1")
	}
	talk(t, "P25.1", s, "in a past 9", "past 9 Xone twoa", "in a past 10", "error 180", "resume a", "resumed 9 one twoab")
	calm(t, s, "a", 8)
	talk(t, "P25.1", s, "in a past 10", "past 10 Xone twoab", "in a judge", "holds", "resume a", "error 128", "save a", "saved 10", "resume a", "resumed 10 Xone twoab", "find a 0 X", "places 0")
}
