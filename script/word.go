package script

import (
	"strconv"
	"strings"

	"jotter/api"
)

// Where in an entry a word's meaning goes.
const (
	site = iota
	first
	second
	third
	char
	raw
)

// field is what a word tells, and the least and the greatest value that it may have.
type field struct{ place, least, most int }

// value gives what a word comes to: its number, its one byte, or how many bytes it tells.
func (f field) value(word string) (int, api.Errno) {
	switch f.place {
	case char:
		return single(word)
	case raw:
		return hexSize(word)
	}
	return number(word)
}

// put lays a word, of that value, into an entry.
func (f field) put(e *api.Entry, word string, value int) {
	switch f.place {
	case site:
		e.Site = value
	case first:
		e.A = value
	case second:
		e.B = value
	case third:
		e.C = value
	case char:
		e.Ch = byte(value)
	case raw:
		e.Bytes = hexBytes(word)
	}
}

// word gives the word of an entry that put would lay there.
func (f field) word(e api.Entry) string {
	switch f.place {
	case site:
		return strconv.Itoa(e.Site)
	case first:
		return strconv.Itoa(e.A)
	case second:
		return strconv.Itoa(e.B)
	case third:
		return strconv.Itoa(e.C)
	case char:
		return string([]byte{e.Ch})
	}
	return hexWord(e.Bytes)
}

// number reads one to six digits, the first of several not 0: so no number has two words.
func number(word string) (int, api.Errno) {
	if len(word) < 1 || len(word) > 6 || len(word) > 1 && word[0] == '0' {
		return 0, api.ErrForm
	}
	n := 0
	for i := range len(word) {
		if word[i] < '0' || word[i] > '9' {
			return 0, api.ErrForm
		}
		n = 10*n + int(word[i]-'0')
	}
	return n, api.OK
}

func single(word string) (int, api.Errno) {
	if len(word) != 1 {
		return 0, api.ErrForm
	}
	return int(word[0]), api.OK
}

// nothing is the word of no byte, so that every word has a sign.
const nothing = "-"

const hexSigns = "0123456789abcdef"

// hexSize gives how many bytes a word tells.
func hexSize(word string) (int, api.Errno) {
	if word == nothing {
		return 0, api.OK
	}
	if word == "" || len(word)%2 == 1 {
		return 0, api.ErrHex
	}
	for i := range len(word) {
		if strings.IndexByte(hexSigns, word[i]) < 0 {
			return 0, api.ErrHex
		}
	}
	return len(word) / 2, api.OK
}

// hexBytes gives the bytes of a word that hexSize takes.
func hexBytes(word string) []byte {
	if word == nothing {
		return nil
	}
	var b []byte
	for i := 0; i < len(word); i += 2 {
		high, low := strings.IndexByte(hexSigns, word[i]), strings.IndexByte(hexSigns, word[i+1])
		b = append(b, byte(high<<4|low))
	}
	return b
}

func hexWord(b []byte) string {
	if len(b) == 0 {
		return nothing
	}
	var word strings.Builder
	for _, c := range b {
		word.WriteByte(hexSigns[c>>4])
		word.WriteByte(hexSigns[c&15])
	}
	return word.String()
}
