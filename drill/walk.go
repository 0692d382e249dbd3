package drill

import (
	"strconv"
	"strings"

	"jotter/api"
)

// walk goes through a drill's parts in the order in which they are said.
type walk struct {
	turns int
	put   func(step api.Drilled) api.Errno
}

// letter is one that stands for a number.
type letter struct {
	sign   string // as lines write it: "$s"
	digits string
	around *letter // that of the next block around, if there is one
}

// fill puts in the numbers for the letters. What is put in is digits, so no sign comes about by it, whichever letter is the first.
func (l *letter) fill(text string) string {
	for ; l != nil; l = l.around {
		text = strings.ReplaceAll(text, l.sign, l.digits)
	}
	return text
}

// through goes through parts in which these letters stand for numbers.
func (w *walk) through(parts []*part, letters *letter) error {
	for _, p := range parts {
		if err := w.come(p, letters); err != nil {
			return err
		}
	}
	return nil
}

// come does what a part says that is come to.
func (w *walk) come(p *part, letters *letter) error {
	switch p.kind {
	case aStep:
		e := w.put(api.Drilled{Line: p.at, Text: letters.fill(p.text), Want: p.want})
		return p.fault(e)
	case aUse:
		return w.body(p)
	}
	return w.block(p, letters)
}

func (w *walk) block(p *part, letters *letter) error {
	if err := w.turn(p); err != nil {
		return err
	}
	from, _ := number(letters.fill(p.from))
	to, _ := number(letters.fill(p.to))
	for n := from; n <= to; n++ {
		if err := w.turn(p); err != nil {
			return err
		}
		inner := letters
		if p.kind == aFor {
			inner = &letter{sign: p.sign, digits: strconv.Itoa(n), around: letters}
		}
		if err := w.through(p.inner, inner); err != nil {
			return err
		}
	}
	return nil
}

// body goes through a name's lines, in which no letter of a block around the use stands for anything.
func (w *walk) body(p *part) error {
	for range 2 { // the use is come to, and the lines are begun
		if err := w.turn(p); err != nil {
			return err
		}
	}
	return w.through(p.inner, nil)
}

// turn counts one. Without it a drill that has hardly a step could be gone through for ever.
func (w *walk) turn(p *part) error {
	w.turns++
	if w.turns > api.MaxTurns {
		return p.fault(api.ErrWhole)
	}
	return nil
}

// fault tells that a part's line is wrong in that way.
func (p *part) fault(e api.Errno) error {
	if e == api.OK {
		return nil
	}
	return api.Wrap(p.at, e)
}
