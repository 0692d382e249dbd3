package shelf

import (
	"maps"
	"slices"
	"strconv"
	"strings"

	"jotter/api"
	"jotter/notes"
	"jotter/room"
)

// ofText gives what a verb does that asks something of a text, which must be there.
func ofText(do func(t *named, a said) (string, api.Errno)) func(s *Shelf, a said) (string, api.Errno) {
	return func(s *Shelf, a said) (string, api.Errno) {
		t := s.texts[a.name]
		if t == nil {
			return "", api.ErrEmpty
		}
		return do(t, a)
	}
}

// ofPage gives what a verb does that asks something of a text as one of its sites has it: the line's first number tells which.
func ofPage(do func(t *named, page []api.Elem, a said) (string, api.Errno)) func(s *Shelf, a said) (string, api.Errno) {
	return ofText(func(t *named, a said) (string, api.Errno) {
		page, e := t.Doc(a.numbers[0])
		if e != api.OK {
			return "", e
		}
		return do(t, page, a)
	})
}

func (s *Shelf) open(a said) (string, api.Errno) {
	if s.texts[a.name] != nil {
		return "", api.ErrTaken
	}
	if len(s.texts) >= api.MaxShelf {
		return "", api.ErrSpace
	}
	r, answer := room.Open(count("clients", a.numbers[0]))
	if r != nil {
		// The name is cut out of a line that may be long, and is not to keep it.
		s.texts[strings.Clone(a.name)] = &named{Room: r, clients: a.numbers[0], board: notes.New()}
	}
	return answer, api.OK
}

func (s *Shelf) close(a said) (string, api.Errno) {
	if s.texts[a.name] == nil {
		return "", api.ErrEmpty
	}
	delete(s.texts, a.name)
	return done, api.OK
}

func (s *Shelf) list(said) (string, api.Errno) {
	words := []string{"list"}
	for _, name := range slices.Sorted(maps.Keys(s.texts)) {
		words = append(words, name+":"+strconv.Itoa(s.texts[name].clients))
	}
	return sentence(words...), api.OK
}

// done tells that all is well.
const done = "ok"

// refusal tells an error.
func refusal(e api.Errno) string { return count("error", int(e)) }

// count tells a number behind a word.
func count(word string, n int) string { return sentence(word, strconv.Itoa(n)) }

// counts tells numbers behind a word.
func counts(word string, list []int) string {
	words := []string{word}
	for _, n := range list {
		words = append(words, strconv.Itoa(n))
	}
	return sentence(words...)
}

func sentence(words ...string) string { return strings.Join(words, " ") }
