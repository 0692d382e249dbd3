package shelf

import (
	"strconv"
	"strings"

	"jotter/api"
)

// verb is what the lines with one first word do.
type verb struct {
	form string
	do   func(s *Shelf, a said) (string, api.Errno)
}

// The forms of lines: a sign for each word behind the verb. A form with a name has it as its first, one with the rest of the line has that as its last.
const (
	aName   = 'N'
	aNumber = 'n'
	theRest = '*' // its spaces too

	mostDigits = 6
)

// allVerbs gives all there are, by their words.
func allVerbs() map[string]verb {
	return map[string]verb{
		"open":   {"Nn", (*Shelf).open},
		"close":  {"N", (*Shelf).close},
		"list":   {"", (*Shelf).list},
		"in":     {"N*", ofText((*named).in)},
		"note":   {"Nnnn*", ofText((*named).note)},
		"reply":  {"Nnn*", ofText((*named).reply)},
		"shut":   {"Nn", ofText((*named).shut)},
		"look":   {"Nnn", ofPage((*named).look)},
		"notes":  {"Nn", ofPage((*named).notes)},
		"at":     {"Nnn", ofPage((*named).at)},
		"sweep":  {"Nn", ofPage((*named).sweep)},
		"find":   {"Nn*", ofPage((*named).find)},
		"swap":   {"Nnn*", ofText((*named).swap)},
		"words":  {"Nn", ofPage((*named).words)},
		"merge":  {"Nn*", ofText((*named).merge)},
		"lost":   {"Nn*", ofText((*named).lost)},
		"save":   {"N", ofText((*named).save)},
		"resume": {"N", ofText((*named).resume)},
	}
}

// said is what the words of a line come to.
type said struct {
	name    string
	numbers []int // in their order
	rest    string
}

// hear does what a line says, and gives its answer, or why there is none. The forms of all words come ahead of what the name means.
func (s *Shelf) hear(line string) (string, api.Errno) {
	if strings.Contains(line, lineEnd) {
		return "", api.ErrShelf
	}
	v, ok := s.verbOf(line)
	if !ok {
		return "", api.ErrShelf
	}
	a, ok := v.read(line)
	if !ok {
		return "", api.ErrShelf
	}
	if v.hasName() && !isName(a.name) {
		return "", api.ErrName
	}
	return v.do(s, a)
}

// verbOf gives the verb that a line begins with, if it is one.
func (s *Shelf) verbOf(line string) (verb, bool) {
	s.once.Do(func() { s.verbs = allVerbs() })
	word, _, _ := strings.Cut(line, " ")
	v, ok := s.verbs[word]
	return v, ok
}

func (v verb) hasName() bool { return strings.IndexByte(v.form, aName) == 0 }

func (v verb) hasRest() bool { return strings.IndexByte(v.form, theRest) >= 0 }

// read gives what a line's words come to, and tells whether they have the verb's form.
func (v verb) read(line string) (said, bool) {
	words := v.cut(line)
	if len(words) != len(v.form) {
		return said{}, false
	}
	var a said
	for i, word := range words {
		if !a.take(v.form[i], word) {
			return said{}, false
		}
	}
	return a, true
}

// cut gives a line's words behind its verb, but no more than one above what the form has: that one tells that they are too many. Behind a rest there can be none.
func (v verb) cut(line string) []string {
	most := 2 + len(v.form)
	if v.hasRest() {
		most--
	}
	return strings.SplitN(line, " ", most)[1:]
}

// take adds what a word comes to, if it has the form of that sign. Whether a name may be is asked later.
func (a *said) take(sign byte, word string) bool {
	switch sign {
	case aName:
		a.name = word
	case theRest:
		a.rest = word
	case aNumber:
		n, ok := number(word)
		a.numbers = append(a.numbers, n)
		return ok
	}
	return true
}

// number reads a number, which has one form alone: that in which it is told, too.
func number(word string) (int, bool) {
	if len(word) > mostDigits {
		return 0, false
	}
	n, err := strconv.Atoi(word)
	return n, err == nil && n >= 0 && strconv.Itoa(n) == word
}

// isName tells whether a text may have that name.
func isName(word string) bool {
	return len(word) >= 1 && len(word) <= api.MaxName && strings.Trim(word, "abcdefghijklmnopqrstuvwxyz") == ""
}
