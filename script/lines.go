package script

import (
	"bytes"
	"strings"

	"jotter/api"
)

// linesOf gives a text's lines. It hears all of them, so that their sender has ended.
func linesOf(text string) []string {
	lines := make(chan string)
	go send(text, lines)
	var all []string
	for line := range lines {
		all = append(all, line)
	}
	return all
}

// send sends a text's lines, without their ends, and closes the channel. No byte of a longer sign, and none that is no sign, looks like a line's end: so runes find the very bytes 10.
func send(text string, lines chan<- string) {
	from := 0
	for at, sign := range text {
		if sign == '\n' {
			lines <- text[from:at]
			from = at + 1
		}
	}
	if from < len(text) {
		lines <- text[from:]
	}
	close(lines)
}

// header gives the number of clients that a first line names, or 0.
func header(line string) int {
	word, found := strings.CutPrefix(line, heading+" ")
	if !found {
		return 0
	}
	clients, e := number(word)
	if e != api.OK || clients > api.MaxClients {
		return 0
	}
	return clients
}

// lineOf gives an entry's line, and tells whether it has one: it has, just when that line, read again, is the entry. So nothing is printed that is refused, or that a line leaves out. (Bytes beyond any line are not spelt first.)
func lineOf(e api.Entry) (string, bool) {
	if e.Err != api.OK || e.Kind < 0 || e.Kind >= len(verbs) || len(e.Bytes) > api.MaxFrame {
		return "", false
	}
	line := verbs[e.Kind]
	for _, f := range fieldsOf(formOf(e.Kind)) {
		line += " " + f.word(e)
	}
	return line, same(Line(line), e)
}

func same(a, b api.Entry) bool {
	return a.Kind == b.Kind && a.Site == b.Site && a.A == b.A && a.B == b.B && a.C == b.C && a.Ch == b.Ch && bytes.Equal(a.Bytes, b.Bytes) && a.Err == b.Err
}
