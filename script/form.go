package script

import (
	"strings"

	"jotter/api"
)

// verbs holds the first words of lines, each at its kind. No line of EBad has one.
var verbs = [...]string{
	api.EInsert:  "insert",
	api.EDelete:  "delete",
	api.ETick:    "tick",
	api.EDeliver: "deliver",
	api.EDrop:    "drop",
	api.EDouble:  "double",
	api.EFlip:    "flip",
	api.EAll:     "all",
	api.ERound:   "round",
	api.ECrash:   "crash",
	api.EBoot:    "boot",
	api.EStumble: "stumble",
	api.EForge:   "forge",
}

// kindOf gives the kind of a line by its first word.
func kindOf(verb string) int {
	for kind, v := range verbs {
		if v == verb {
			return kind
		}
	}
	return api.EBad
}

// The forms of lines: which words stand behind the verb.
const (
	bareForm = iota
	insertForm
	deleteForm
	tickForm
	flightForm
	flipForm
	crashForm
	forgeForm
)

// formOf gives the form that a kind's lines have.
func formOf(kind int) int {
	switch kind {
	case api.EInsert:
		return insertForm
	case api.EDelete:
		return deleteForm
	case api.ETick:
		return tickForm
	case api.EDeliver:
		fallthrough
	case api.EDrop:
		fallthrough
	case api.EDouble:
		return flightForm
	case api.EFlip:
		return flipForm
	case api.ECrash:
		fallthrough
	case api.EStumble:
		return crashForm
	case api.EForge:
		return forgeForm
	}
	return bareForm
}

// fieldsOf gives what the words of a form tell, and from where to where.
func fieldsOf(form int) []field {
	switch form {
	case insertForm:
		return []field{{site, 1, api.MaxClients}, {first, 0, api.MaxDoc - 1}, {char, api.LeastCh, api.MostCh}}
	case deleteForm:
		return []field{{site, 1, api.MaxClients}, {first, 0, api.MaxDoc - 1}}
	case tickForm:
		return []field{{site, 0, api.MaxClients}}
	case flightForm:
		return []field{{first, 0, api.MaxFlight - 1}}
	case flipForm:
		return []field{{first, 0, api.MaxFlight - 1}, {second, 0, api.MaxFrame - 1}, {third, 1, 255}}
	case crashForm:
		return []field{{first, 0, api.MaxDisk}, {second, 0, api.MaxDisk}, {third, 0, 255}}
	case forgeForm:
		return []field{{site, 0, api.MaxClients}, {raw, 0, api.MaxFrame}}
	}
	return nil
}

// wordsOf gives a line's words behind its verb, but no more than one above what its form has: that one tells that they are too many. An inserted character may be a space itself: there all the rest is the last word.
func wordsOf(line string, form int) []string {
	most := 2 + len(fieldsOf(form))
	if form == insertForm {
		most--
	}
	return strings.SplitN(line, " ", most)[1:]
}

// measure gives the value of each word, if they are as the fields say. The forms of all words come ahead of any range.
func measure(words []string, fields []field) ([]int, api.Errno) {
	if len(words) != len(fields) {
		return nil, api.ErrForm
	}
	values := make([]int, len(fields))
	for i, f := range fields {
		v, e := f.value(words[i])
		if e != api.OK {
			return nil, e
		}
		values[i] = v
	}
	for i, f := range fields {
		if values[i] < f.least || values[i] > f.most {
			return nil, api.ErrRange
		}
	}
	return values, api.OK
}
