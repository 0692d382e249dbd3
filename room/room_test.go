package room_test

import (
	"fmt"
	"strconv"
	"strings"
	"testing"

	"jotter/api"
	"jotter/room"
)

func TestOpen(t *testing.T) {
	for n := 1; n <= api.MaxClients; n++ {
		r := open(t, n)
		talk(t, "P20.1", r, fmt.Sprint("show ", n), "text 0 ", fmt.Sprint("show ", n+1), "error 160", fmt.Sprint("left ", n), "left 64 undo 0 redo 0", "told", "told 0 ")
	}
	for _, line := range []string{"", "\n", "clients", "clients ", "clients 0", "clients 65", "clients 64 ", " clients 1", "clients  1", "clients 01", "clients +1", "clients -1", "clients 1.0", "clients 1\n", "clients 1\n\n",
		"clients 1\ntold", "clients 1\r", "Clients 1", "client 1", "clients1", "clients\t1", "clients x", "clients 1 1", "clients 999999", "clients 1000001", "clients 18446744073709551617", "ok",
		"clients " + strings.Repeat("1", 70000), strings.Repeat("clients 1\n", 9000)} {
		if r, answer := room.Open(line); r != nil || answer != "error 151" {
			t.Errorf("P20.1: Open(%.40q): a room: %v, %q", line, r != nil, answer)
		}
	}
}

// The chapter's examples, by their numbers.
func TestExamples1To3(t *testing.T) {
	for in, out := range map[string]string{"clients 1\ntype 1 hi\nshow 1\n": "ok\nok 2\ntext 2 hi\n", "": "error 151\n", "client 1": "error 151\n"} {
		if got := room.Run(in); got != out {
			t.Errorf("P20.4: Run(%q) = %q, want %q", in, got, out)
		}
	}
	r := open(t, 1)
	talk(t, "P20.3", r, "type 1 hi", "ok 2", "move 1 0", "ok 0", "type 1 oh ", "ok 3", "show 1", "text 3 oh hi",
		"undo 1", "ok 3", "show 1", "text 0 hi", "redo 1", "ok 3", "show 1", "text 3 oh hi",
		"replace 1 oh ho", "ok 2", "show 1", "text 5 oh ho", "left 1", "left 51 undo 3 redo 0")
}

func TestExample4(t *testing.T) {
	r := open(t, 1)
	talk(t, "P20.3", r, "show 2", "error 160", "show", "error 200", "show 1 1", "error 200", "shout", "error 200", "insert 1 0 a", "error 200", "erase 1 -0", "error 200", "tick 2", "error 160", "tick", "error 154")
}

func TestExamples5To7(t *testing.T) {
	r := open(t, 1)
	talk(t, "P20.3", r, "told", "told 0 ", "past 0", "past 0 ", "past 1", "error 180", "type 1 ab", "ok 2")
	calm(t, r, 5)
	talk(t, "P20.3", r, "told", "told 2 ab", "blame 2", "blame 1:0-2", "born 2 1", "born 2", "died 1", "died 0", "tally 1 2", "tally 2 0 2", "pending 1", "pending 0 made 2 have 2", "judge", "holds",
		"crash 0 0 0", "ok 0", "told", "error 161", "past 2", "past 2 ab", "boot", "ok 0", "told", "told 2 ab")
}

func TestExamples8To10(t *testing.T) {
	r := open(t, 1)
	talk(t, "P20.3", r, "undo 1", "error 194", "redo 1", "error 195", "type 1 ", "ok 0", "type 1", "error 200", "type 1  a", "ok 2", "show 1", "text 2  a",
		"erase 1 99", "error 193", "show 1", "text 2  a", "left 1", "left 62 undo 1 redo 0")
}

// TestDesks: what hands do is what their desks do.
func TestDesks(t *testing.T) {
	r := open(t, 2)
	talk(t, "P20.3", r,
		"type 1 a\tb", "error 191", "type 1 "+strings.Repeat("x", 65), "error 192", "type 1 \xff", "error 191", "type 1 abc def", "ok 7", "show 1", "text 7 abc def", "show 2", "text 0 ",
		"erase 1 3", "ok 3", "show 1", "text 4 abc ", "move 1 1", "ok 0", "show 1", "text 1 abc ", "erase 1 -2", "ok 2", "show 1", "text 1 a ",
		"erase 1 2", "error 193", "erase 1 -2", "error 193", "erase 1 0", "ok 0", "erase 1 999999", "error 193", "erase 1 -999999", "error 193",
		"move 1 3", "error 190", "move 1 2", "ok 0", "move 1 999999", "error 190", "show 1", "text 2 a ",
		"replace 1 b", "ok 3", "show 1", "text 1 b", "replace 1 "+strings.Repeat("y", 513), "error 196", "replace 1 \n", "error 200", "replace 1 \x1f", "error 191", "replace 1 "+strings.Repeat("y", 512), "error 192",
		"left 1", "left 49 undo 4 redo 0", "left 2", "left 64 undo 0 redo 0",
		"undo 1", "ok 3", "undo 1", "ok 2", "show 1", "text 2 abc ", "left 1", "left 44 undo 2 redo 2", "redo 1", "ok 2", "type 1 z", "ok 1", "redo 1", "error 195",
		"type 2 other", "ok 5", "erase 2 1", "ok 1", "show 2", "text 4 othe", "left 2", "left 58 undo 2 redo 0", "show 1", "text 2 az ")
}

// TestLastEdits: a desk may make 64 edits, just as many as its client.
func TestLastEdits(t *testing.T) {
	r := open(t, 1)
	talk(t, "P20.1", r, "type 1 "+strings.Repeat("x", 60), "ok 60", "left 1", "left 4 undo 1 redo 0", "undo 1", "error 192", "type 1 12345", "error 192", "erase 1 5", "error 192", "type 1 1234", "ok 4",
		"left 1", "left 0 undo 2 redo 0", "type 1 x", "error 192", "erase 1 1", "error 192", "type 1 ", "ok 0", "undo 1", "error 192", "move 1 0", "ok 0", "pending 1", "pending 64 made 64 have 0")
	if text, e := r.Doc(1); len(text) != 64 || e != api.OK {
		t.Errorf("P20.7: a text of %d characters, %d", len(text), e)
	}
}

// TestWords: how a line is cut, and which words have their form.
func TestWords(t *testing.T) {
	r := open(t, 2)
	for _, line := range []string{"", " ", "  ", "show", "show ", "show  1", " show 1", "show 1 ", "show 1  ", "show 1 2", "show x", "show 01", "show 00", "show +1", "show -1", "show 1.", "show 1000000", "show 0000001", "show 1\x00", "show\t1", "SHOW 1", "Show 1", "shows 1",
		"type", "type ", "type 1", "type  ", "type  1 a", "type x a", "type -1 a", "type 01 a", "type 1000000 a", "typed 1 a", "replace", "replace 1", "replace 1a b", "replace  1 a", "erase", "erase 1", "erase 1 ", "erase 1 -", "erase 1 --1", "erase 1 -0", "erase 1 -01", "erase 1 01", "erase 1 +1", "erase 1 1-",
		"erase 1 1000000", "erase 1 -1000000", "erase -1 1", "erase 1 1 1", "erase 1 - 1", "move 1", "move 1 -1", "move 1 1 ", "move 1  1", "move 1 x", "undo", "undo 1 ", "undo 1 1", "undo x", "redo", "redo 1 1", "redo -0", "pending", "pending 1 1", "pending one", "told ", "told 0", "past", "past ", "past -1",
		"past 00", "past 1 1", "past 1000000", "blame", "blame 0 0", "blame -0", "born", "born 0", "born 0 ", "born 0 0 0", "born 0 -1", "born x 0", "died", "died 1 1", "died -1", "tally", "tally 1", "tally 1 0 0", "tally 1 x", "tally -1 0", "tally 1 -1", "judge ", "judge 1", "judges", "left", "left 1 1", "left x",
		"insert 1 0 a", "delete 1 0", "clients 1", "ok", "error 200", "#", "type\x001 a", "\xff\xfe"} {
		talk(t, "P20.3", r, line, "error 200", "show 1", "text 0 ", "left 1", "left 64 undo 0 redo 0")
	}
	talk(t, "P20.3", r, "erase 1 -1", "error 193", "erase 1 -999999", "error 193", "past 999999", "error 180", "show 999999", "error 160", "move 1 999999", "error 190", "born 999999 0", "error 180", "born 0 0", "error 181",
		"tally 999999 0", "tally 0 0 0", "tally 0 0", "tally 0 0 0", "tally 1 1", "error 180", "died 0", "error 180", "died 1", "error 180", "blame 0", "blame", "blame 1", "error 180")
}

// TestTheRest: of type and replace only the first two spaces cut.
func TestTheRest(t *testing.T) {
	for _, text := range []string{"", " ", "  ", "a", " a", "a ", " a b  c ", "1", "1 2", "-", "type 1 x", "\"'\\~!"} {
		r := open(t, 1)
		n := strconv.Itoa(len(text))
		talk(t, "P20.3", r, "type 1 "+text, "ok "+n, "show 1", "text "+n+" "+text)
		r = open(t, 1)
		talk(t, "P20.3", r, "replace 1 "+text, "ok "+n, "show 1", "text "+n+" "+text)
	}
}

// TestLineEnds: a line with a byte 10 is none, wherever that stands.
func TestLineEnds(t *testing.T) {
	r := open(t, 1)
	for _, line := range []string{"\n", "told\n", "\ntold", "type 1 a\n", "type 1 a\nb", "type 1 \n", "all\n", "round\nall", "tick\n", "boot\n", "forge 0 -\n", "judge\n", "shout\n", "type\n1 a", "show 2\n"} {
		talk(t, "P20.3", r, line, "error 200")
	}
	talk(t, "P20.3", r, "show 1", "text 0 ", "all", "ok 0", "told\r", "error 200", "type 1 a\r", "error 191")
}

// TestNoSuchClient: it is told behind the forms of all words, and ahead of all that the desk says.
func TestNoSuchClient(t *testing.T) {
	r := open(t, 3)
	for _, site := range []string{"0", "4", "64", "65", "999999"} {
		for _, line := range []string{"type S \t", "type S ", "erase S 99", "erase S -1", "move S 7", "replace S " + strings.Repeat("x", 600), "undo S", "redo S", "show S", "pending S", "left S"} {
			talk(t, "P20.3", r, strings.Replace(line, "S", site, 1), "error 160")
		}
		talk(t, "P20.3", r, "erase "+site+" x", "error 200", "move "+site+" -1", "error 200", "type "+site, "error 200", "show "+site+" ", "error 200", "tally "+site+" 0", "tally 0 0 0")
	}
}

// TestPlayed: script says what such a line is, the system what comes of it.
func TestPlayed(t *testing.T) {
	r := open(t, 2)
	talk(t, "P20.3", r,
		"tick", "error 154", "tick ", "error 154", "tick 1 1", "error 154", "tick x", "error 154", "tick 65", "error 155", "tick 3", "error 160", "tick 1", "ok 0", "tick 0", "ok 2",
		"deliver 2", "error 74", "deliver 2048", "error 155", "deliver -1", "error 154", "deliver 1", "ok 1", "double 0", "ok 1", "double", "error 154", "double 2", "error 74", "drop 7", "error 74", "drop 1", "ok 1", "drop 01", "error 154",
		"flip 0 0 0", "error 155", "flip 0 0", "error 154", "flip 0 7 1", "error 75", "flip 1 0 1", "error 74", "flip 0 6 255", "ok 1", "flip 0 6 255", "error 76", "deliver 0", "error 64", "deliver 0", "error 74",
		"all", "ok 0", "all ", "error 154", "round", "ok 3", "round 1", "error 154", "all", "ok 3", "round", "ok 4", "all", "ok 4", "round", "ok 4", "all", "ok 4",
		"boot", "error 162", "boot 1", "error 154", "stumble 0 0 0", "error 162", "stumble", "error 154", "crash 1 0 0", "error 21", "crash 0 0 1", "error 22", "crash 0 0", "error 154", "crash 262145 0 0", "error 155",
		"type 1 a", "ok 1", "tick 1", "ok 1", "deliver 0", "ok 1", "crash 4 0 0", "ok 13", "told", "error 161", "tick 0", "error 161", "crash 0 0 0", "error 161", "tick 2", "ok 1", "deliver 0", "error 161",
		"stumble 5 4 3", "ok 4", "stumble 0 0 0", "ok 5", "boot", "ok 0", "forge 3 -", "error 160", "forge 65 -", "error 155", "forge 0 x", "error 156", "forge 0 -", "error 62", "forge 1 00", "error 62", "forge 1 0000000000", "error 64")
}

// TestForged: bytes that nobody sent are taken like others.
func TestForged(t *testing.T) {
	r := open(t, 1)
	talk(t, "P20.3", r, forge(t, 1, api.Msg{Kind: api.MInvite, Epoch: 1, Client: 1}), "ok 0", "tick 1", "ok 1", "all", "ok 1", "tick 0", "ok 1", "deliver 0", "ok 1", "type 1 a", "ok 1", "tick 1", "ok 1", "drop 0", "ok 1",
		forge(t, 0, api.Msg{Kind: api.MEdit, Epoch: 1, Client: 1, Num: 1, Op: api.Op{Kind: api.Insert, Ch: 'a', Client: 1, Seq: 1}}), "ok 0", "past 1", "past 1 a", "told", "told 0 ", "judge", "holds",
		forge(t, 0, api.Msg{Kind: api.MInvite, Epoch: 1, Client: 1}), "error 112", forge(t, 1, api.Msg{Kind: api.MInvite, Epoch: 1, Client: 2}), "error 113")
}

// TestTwoHands: what one types the other gets, each has a caret and a past of its own.
func TestTwoHands(t *testing.T) {
	r := joined(t, 2)
	talk(t, "P20.3", r, "type 1 ac", "ok 2", "pending 1", "pending 2 made 2 have 0", "pending 2", "pending 0 made 0 have 0", "show 2", "text 0 ")
	calm(t, r, 2)
	talk(t, "P20.3", r, "show 2", "text 0 ac", "pending 1", "pending 0 made 2 have 2", "move 2 1", "ok 0", "type 2 b", "ok 1", "show 1", "text 2 ac", "show 2", "text 2 abc")
	calm(t, r, 2)
	talk(t, "P20.3", r, "show 1", "text 3 abc", "undo 1", "ok 2", "show 1", "text 0 b", "pending 1", "pending 2 made 4 have 3", "told", "told 3 abc", "past 3", "past 3 abc")
	calm(t, r, 2)
	talk(t, "P20.3", r, "show 2", "text 1 b", "told", "told 5 b", "past 0", "past 0 ", "past 1", "past 1 a", "past 2", "past 2 ac", "past 3", "past 3 abc", "past 4", "past 4 ab", "past 5", "past 5 b", "past 6", "error 180",
		"blame 0", "blame", "blame 2", "blame 1:0-2", "blame 3", "blame 1:0-1 2:1-2 1:2-3", "blame 5", "blame 2:0-1", "blame 6", "error 180",
		"born 3 0", "born 1", "born 3 1", "born 3", "born 3 2", "born 2", "born 3 3", "error 181", "born 6 0", "error 180", "died 1", "died 5", "died 2", "died 4", "died 3", "died 0", "died 4", "died 0", "died 6", "error 180", "died 0", "error 180",
		"tally 1 5", "tally 2 2 0", "tally 1 4", "tally 2 1 1", "tally 2 5", "tally 1 0 1", "tally 3 5", "tally 0 0 0", "tally 2 6", "error 180", "left 1", "left 60 undo 0 redo 1", "judge", "holds")
}

// TestUnsynced: told tells what is synced, the past what lies on the disk, synced or not.
func TestUnsynced(t *testing.T) {
	r := joined(t, 1)
	talk(t, "P20.3", r, "type 1 ab", "ok 2", "tick 1", "ok 2", "deliver 0", "ok 1", "told", "told 0 ", "past 1", "past 1 a", "past 2", "error 180", "deliver 0", "ok 1", "past 2", "past 2 ab", "blame 2", "blame 1:0-2", "told", "told 0 ",
		"tick 0", "ok 2", "told", "told 2 ab", "type 1 c", "ok 1", "tick 1", "ok 3", "all", "ok 5", "past 3", "past 3 abc", "pending 1", "pending 1 made 3 have 2")
	if disk := r.Disk(); len(disk) == 0 {
		t.Fatalf("P20.7: no bytes on the disk")
	}
	// The third record is 17 bytes: all but one of them are kept, or all with one garbled.
	talk(t, "P20.3", r, "crash 16 0 0", "ok 1", "past 3", "error 180", "past 2", "past 2 ab", "tally 1 2", "tally 2 0 2", "judge", "holds", "boot", "ok 16", "told", "told 2 ab")
	calm(t, r, 6)
	talk(t, "P20.3", r, "told", "told 3 abc", "type 1 d", "ok 1", "tick 1", "ok 1", "all", "ok 1", "past 4", "past 4 abcd", "crash 17 12 8", "ok 0", "past 4", "error 180", "past 3", "past 3 abc", "boot", "ok 17")
	calm(t, r, 6)
	talk(t, "P20.3", r, "type 1 e", "ok 1", "tick 1", "ok 1", "all", "ok 1", "crash 17 0 0", "ok 0", "past 5", "past 5 abcde", "told", "error 161", "boot", "ok 0", "told", "told 5 abcde", "judge", "holds")
}

// TestBroken: judge tells what is wrong with what users saw.
func TestBroken(t *testing.T) {
	record := func(rev, pos int, ch byte, seq int) string {
		return forge(t, 2, api.Msg{Kind: api.MRecord, Epoch: 1, Client: 2, Num: rev, Rev: rev, Op: api.Op{Kind: api.Insert, Pos: pos, Ch: ch, Client: 1, Seq: seq}})
	}
	// Client 2 is told of another character than client 1's.
	r := joined(t, 2)
	talk(t, "P20.3", r, "type 1 x", "ok 1", record(1, 0, 'y', 1), "ok 0", "show 2", "text 0 y", "judge", "error 142")
	talk(t, "P20.3", r, "tick 1", "ok 1", "all", "ok 1", "judge", "broken 2 1 -1")
	// Client 2 is told of both, in another order than client 1 shows them in.
	r = joined(t, 2)
	talk(t, "P20.3", r, "type 1 xy", "ok 2", record(1, 0, 'x', 1), "ok 0", record(2, 0, 'y', 2), "ok 0", "show 2", "text 0 yx", "show 1", "text 2 xy")
	talk(t, "P20.3", r, "tick 1", "ok 2", "all", "ok 2", "past 2", "past 2 xy", "judge", "broken 3 3 1")
}

// TestStepsOfTheSystem: an edit of a desk is a step of the system and an event, so that the log's edits have been seen.
func TestStepsOfTheSystem(t *testing.T) {
	r := joined(t, 2)
	talk(t, "P20.2", r, "type 1 abc", "ok 3", "type 2 xyz", "ok 3", "erase 1 1", "ok 1", "undo 2", "ok 3")
	calm(t, r, 4)
	talk(t, "P20.2", r, "redo 2", "ok 3", "undo 1", "ok 1", "replace 1 k", "ok 4", "judge", "holds")
}
