package drill

import (
	"strconv"
	"strings"

	"jotter/api"
)

const (
	lineEnd = "\n"
	heading = "clients"
)

// The first words of lines that are more than a step to say.
const (
	defining  = "def"
	repeating = "repeat"
	counting  = "for"
	ending    = "end"
	using     = "use"
	wanting   = "expect"
)

// line is one that says something.
type line struct {
	at   int    // its number in the text
	text string // without its leading spaces
}

// linesOf gives those of a text's lines that say something, in memory of their own. No byte of a longer sign, and none that is no sign, looks like a line's end: so runes find the very bytes 10.
func linesOf(text string) []line {
	var lines []line
	at, from := 0, 0
	take := func(end int) {
		said := strings.TrimLeft(text[from:end], " ")
		if said != "" && said[0] != '#' {
			lines = append(lines, line{at, strings.Clone(said)})
		}
		at, from = at+1, end+1
	}
	for place, sign := range text {
		if sign == '\n' {
			take(place)
		}
	}
	// What stands behind the last end is a line unless it is empty, and such a line would say nothing.
	take(len(text))
	return lines
}

// clientsOf gives the number of clients that a head names, or 0.
func clientsOf(text string) int {
	word, found := strings.CutPrefix(text, heading+" ")
	if !found {
		return 0
	}
	clients, ok := number(word)
	if !ok || clients > api.MaxClients {
		return 0
	}
	return clients
}

// headOf gives the head that names so many clients.
func headOf(clients int) string { return heading + " " + strconv.Itoa(clients) }

// number reads a number as a room has it: one to six digits, the first of several not 0.
func number(word string) (int, bool) {
	if len(word) < 1 || len(word) > 6 || len(word) > 1 && word[0] == '0' {
		return 0, false
	}
	n := 0
	for i := range len(word) {
		if word[i] < '0' || word[i] > '9' {
			return 0, false
		}
		n = 10*n + int(word[i]-'0')
	}
	return n, true
}

// isName tells whether a definition may have that name.
func isName(word string) bool {
	if len(word) < 1 || len(word) > api.MaxName {
		return false
	}
	for i := range len(word) {
		if word[i] < 'a' || word[i] > 'z' {
			return false
		}
	}
	return true
}

// isLetter tells whether a word is one that may stand for a number.
func isLetter(word string) bool { return len(word) == 1 && isName(word) }
