package room

import (
	"strings"

	"jotter/api"
)

// verb is what the lines with one first word do.
type verb struct {
	word string
	form string
	do   func(r *Room, s said) (string, api.Errno)
}

// The forms of lines: a sign for each word behind the verb. A form with the rest of the line has it as its last.
const (
	aClient = 'c' // a number, which must be a client's
	aNumber = 'n' // any number
	signed  = 's' // one that may be below 0
	theRest = 't' // all the rest of the line, its spaces too

	unread = "-" // the form is for script to read
)

// verbs gives all there are.
func verbs() []verb {
	return []verb{
		{"tick", unread, (*Room).play},
		{"deliver", unread, (*Room).play},
		{"drop", unread, (*Room).play},
		{"double", unread, (*Room).play},
		{"flip", unread, (*Room).play},
		{"all", unread, (*Room).play},
		{"round", unread, (*Room).play},
		{"crash", unread, (*Room).play},
		{"boot", unread, (*Room).play},
		{"stumble", unread, (*Room).play},
		{"forge", unread, (*Room).play},
		{"type", "ct", (*Room).typeIn},
		{"erase", "cs", (*Room).erase},
		{"move", "cn", (*Room).move},
		{"replace", "ct", (*Room).replace},
		{"undo", "c", (*Room).undo},
		{"redo", "c", (*Room).redo},
		{"show", "c", (*Room).show},
		{"pending", "c", (*Room).pending},
		{"told", "", (*Room).told},
		{"past", "n", (*Room).past},
		{"blame", "n", (*Room).blame},
		{"born", "nn", (*Room).born},
		{"died", "n", (*Room).died},
		{"tally", "nn", (*Room).tally},
		{"judge", "", (*Room).judge},
		{"left", "c", (*Room).left},
	}
}

// said is what the words of a line come to.
type said struct {
	line    string
	numbers []int // in their order
	text    string
}

// hear does what a line says, and gives its answer, or why there is none.
func (r *Room) hear(line string) (string, api.Errno) {
	if strings.Contains(line, lineEnd) {
		return "", api.ErrTalk
	}
	word, _, _ := strings.Cut(line, " ")
	for _, v := range verbs() {
		if v.word == word {
			return r.obey(v, line)
		}
	}
	return "", api.ErrTalk
}

// obey does what a line with that verb says. Its words' forms come ahead of what they mean.
func (r *Room) obey(v verb, line string) (string, api.Errno) {
	s, ok := v.read(line)
	if !ok {
		return "", api.ErrTalk
	}
	if at := strings.IndexByte(v.form, aClient); at >= 0 && !r.isClient(s.numbers[at]) {
		return "", api.ErrSite
	}
	return v.do(r, s)
}

// read gives what a line's words come to, and tells whether they have the verb's form.
func (v verb) read(line string) (said, bool) {
	s := said{line: line}
	if v.form == unread {
		return s, true
	}
	words := v.words(line)
	if len(words) != len(v.form) {
		return said{}, false
	}
	for i, word := range words {
		if !s.take(v.form[i], word) {
			return said{}, false
		}
	}
	return s, true
}

// words gives a line's words behind its verb, but no more than one above what the form has: that one tells that they are too many.
func (v verb) words(line string) []string {
	most := 2 + len(v.form)
	if strings.IndexByte(v.form, theRest) >= 0 {
		most--
	}
	return strings.SplitN(line, " ", most)[1:]
}

// take adds what a word comes to, if it has the form of that sign.
func (s *said) take(sign byte, word string) bool {
	if sign == theRest {
		s.text = word
		return true
	}
	n, ok := number(word)
	if sign == signed {
		n, ok = eitherWay(word)
	}
	s.numbers = append(s.numbers, n)
	return ok
}

// eitherWay reads a number that may have one - ahead of it; 0 has one form.
func eitherWay(word string) (int, bool) {
	digits, below := strings.CutPrefix(word, "-")
	n, ok := number(digits)
	if below {
		return -n, ok && n > 0
	}
	return n, ok
}

// number reads a number as a script has it: one to six digits, the first of several not 0.
func number(word string) (int, bool) {
	if len(word) < 1 || len(word) > 6 || len(word) > 1 && word[0] == '0' {
		return 0, false
	}
	n := 0
	for i := range len(word) {
		if word[i] < '0' || word[i] > '9' {
			return 0, false
		}
		n = 10*n + int(word[i]-'0')
	}
	return n, true
}
