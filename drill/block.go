package drill

import (
	"strings"

	"jotter/api"
)

// What a part can be.
const (
	theWhole = iota
	aStep
	aRepeat
	aFor
	aUse
	aDef
	anEnd
)

// part is what a line comes to, with all that stands in it.
type part struct {
	kind     int
	at       int     // the line's number
	text     string  // of a step: what it says or wants; of a def: its name
	want     bool    // of a step
	sign     string  // of a for: its letter as lines write it, "$s"
	from, to string  // how often a block is said: numbers, or signs that stand for them
	inner    []*part // what a block or a def has in it; of a use: what its name's def has
}

// reader knows what stands around the next line.
type reader struct {
	open   []*part            // what began and has not ended, the outermost first: the whole, which no line ends
	bodies map[string][]*part // by their names
}

// read gives the parts that lines come to, or tells the first line that is wrong, whether it would be come to or not. Each label is a state: a line is taken, and then what it came to is put where it stands, begins, or ends what began last.
func read(lines []line) ([]*part, error) {
	r := reader{open: []*part{{kind: theWhole}}, bodies: map[string][]*part{}}
	var (
		here line
		p    *part
		e    api.Errno
	)
next:
	if len(lines) == 0 {
		goto over
	}
	here, lines = lines[0], lines[1:]
	p, e = r.meaning(here.text)
	if e != api.OK {
		goto wrong
	}
	p.at = here.at
	switch p.kind {
	case aDef, aRepeat, aFor:
		goto begin
	case anEnd:
		goto end
	}
put:
	r.innermost().inner = append(r.innermost().inner, p)
	goto next
begin:
	r.open = append(r.open, p)
	goto next
end:
	p = r.innermost()
	r.open = r.open[:len(r.open)-1]
	if p.kind != aDef {
		goto put
	}
	r.bodies[p.text] = p.inner
	goto next
over:
	if !r.inside() {
		return r.innermost().inner, nil
	}
	here.at, e = r.innermost().at, api.ErrBlock
wrong:
	return nil, api.Wrap(here.at, e)
}

func (r *reader) innermost() *part { return r.open[len(r.open)-1] }

// inside tells whether the next line stands in a block or a def.
func (r *reader) inside() bool { return len(r.open) > 1 }

// meaning gives what a line is, and why it is wrong, if it is.
func (r *reader) meaning(text string) (*part, api.Errno) {
	first, rest, _ := strings.Cut(text, " ")
	words := strings.Split(text, " ")
	switch first {
	case defining:
		return r.def(words)
	case repeating:
		return r.repeat(words)
	case counting:
		return r.loop(words)
	case using:
		return r.use(words)
	case wanting:
		return &part{kind: aStep, text: rest, want: true}, api.OK
	}
	if text == ending {
		return r.end()
	}
	return &part{kind: aStep, text: text}, api.OK
}

func (r *reader) def(words []string) (*part, api.Errno) {
	if len(words) != 2 {
		return nil, api.ErrDef
	}
	if r.inside() {
		return nil, api.ErrBlock
	}
	if _, taken := r.bodies[words[1]]; taken || !isName(words[1]) {
		return nil, api.ErrDef
	}
	return &part{kind: aDef, text: words[1]}, api.OK
}

func (r *reader) repeat(words []string) (*part, api.Errno) {
	if len(words) != 2 || !r.counts(words[1]) {
		return nil, api.ErrCount
	}
	return &part{kind: aRepeat, from: "1", to: words[1]}, api.OK
}

func (r *reader) loop(words []string) (*part, api.Errno) {
	if len(words) != 4 || !isLetter(words[1]) || r.stands("$"+words[1]) {
		return nil, api.ErrVar
	}
	if !r.counts(words[2]) || !r.counts(words[3]) {
		return nil, api.ErrCount
	}
	return &part{kind: aFor, sign: "$" + words[1], from: words[2], to: words[3]}, api.OK
}

// use needs no look at whether that name is one that may be: no other is ever there.
func (r *reader) use(words []string) (*part, api.Errno) {
	if len(words) != 2 {
		return nil, api.ErrDef
	}
	body, there := r.bodies[words[1]]
	if !there {
		return nil, api.ErrDef
	}
	return &part{kind: aUse, inner: body}, api.OK
}

func (r *reader) end() (*part, api.Errno) {
	if !r.inside() {
		return nil, api.ErrBlock
	}
	return &part{kind: anEnd}, api.OK
}

// counts tells whether a word says how often: by a number, or by a letter that stands for one here.
func (r *reader) counts(word string) bool {
	n, ok := number(word)
	return ok && n <= api.MaxTimes || r.stands(word)
}

// stands tells whether a word is the sign of a for around the next line. A def stands outside of all blocks, so none of those around is of another body.
func (r *reader) stands(word string) bool {
	for _, p := range r.open {
		if p.kind == aFor && p.sign == word {
			return true
		}
	}
	return false
}
