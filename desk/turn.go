package desk

import (
	"slices"

	"jotter/api"
)

// turn is what one call does, edit by edit. The hand is asked for its text once; the turn changes a copy of it as the hand changes the text, so that every place that it finds there is one.
type turn struct {
	desk   *Desk
	insert func(pos int, ch int) (api.Edit, api.Errno)
	remove func(pos int) (api.Edit, api.Errno)
	text   []api.Elem
	made   deed
}

func (d *Desk) begin() *turn {
	return &turn{desk: d, insert: d.hand.Insert, remove: d.hand.Delete, text: slices.Clone(d.hand.Doc())}
}

// takeBack takes the last deed of one side back; what that makes is a deed again, which is put on the other side.
func (d *Desk) takeBack(from *side, put func(deed)) api.Errno {
	if from.count() == 0 {
		return from.bare
	}
	t := d.begin()
	last := from.last()
	if last.need(placesOf(t.text)) > d.left {
		return api.ErrRoom
	}
	from.dropLast()
	e := t.reverse(last)
	put(t.made)
	return e
}

// rename lets a new element take an old one's place in all that the desk remembers.
func (d *Desk) rename(old, fresh api.Elem) {
	renameIn(d.caret, old, fresh)
	d.undo.rename(old, fresh)
	d.redo.rename(old, fresh)
}

// caret tells the caret's place in the text.
func (t *turn) caret() int { return behindFirst(t.desk.caret, t.text) }

// perform makes operations that fit the text, one after the other. What was made is a deed, even if the hand has refused the rest.
func (t *turn) perform(ops []api.Op) api.Errno {
	e := t.follow(ops)
	if len(t.made) > 0 {
		t.desk.undo.push(t.made)
		t.desk.redo.empty()
	}
	return e
}

func (t *turn) follow(ops []api.Op) api.Errno {
	for _, op := range ops {
		e := api.OK
		if op.Kind == api.Insert {
			_, e = t.putIn(op.Pos, op.Ch)
		} else {
			e = t.takeOut(op.Pos)
		}
		if e != api.OK {
			return e
		}
	}
	return api.OK
}

// reverse takes a deed back, its last edit first.
func (t *turn) reverse(rest deed) api.Errno {
	for len(rest) > 0 {
		a := rest[len(rest)-1]
		rest = rest[:len(rest)-1]
		if e := t.undoAct(a, rest); e != api.OK {
			return e
		}
	}
	return api.OK
}

// undoAct takes one edit back; what is left of its deed must hear of an element that is made anew.
func (t *turn) undoAct(a act, rest deed) api.Errno {
	if !a.took {
		if at := slices.Index(t.text, a.elem); at >= 0 {
			return t.takeOut(at)
		}
		return api.OK
	}
	fresh, e := t.putIn(behindFirst(a.ahead, t.text), a.elem.Ch)
	if e != api.OK {
		return e
	}
	rest.rename(a.elem, fresh)
	t.desk.rename(a.elem, fresh)
	return api.OK
}

func (t *turn) putIn(pos int, ch byte) (api.Elem, api.Errno) {
	edit, e := t.insert(pos, int(ch))
	if e != api.OK {
		return api.Elem{}, e
	}
	fresh := api.Elem{Ch: ch, Client: edit.Op.Client, Seq: edit.Op.Seq}
	t.text = slices.Insert(t.text, pos, fresh)
	t.note(act{elem: fresh}, pos+1)
	return fresh, api.OK
}

func (t *turn) takeOut(pos int) api.Errno {
	if _, e := t.remove(pos); e != api.OK {
		return e
	}
	a := act{elem: t.text[pos], took: true, ahead: aheadOf(pos, t.text)}
	t.text = slices.Delete(t.text, pos, pos+1)
	t.note(a, pos)
	return api.OK
}

// note counts an edit that was made, and puts the caret where it happened.
func (t *turn) note(a act, caret int) {
	t.made = append(t.made, a)
	t.desk.left--
	t.desk.caret = aheadOf(caret, t.text)
}

// aheadOf gives the elements ahead of a place, the nearest first, in memory of their own.
func aheadOf(pos int, text []api.Elem) []api.Elem {
	list := slices.Clone(text[:pos])
	slices.Reverse(list)
	return list
}

// behindFirst tells the place behind the first element of a list that is in the text, 0 if none is.
func behindFirst(list, text []api.Elem) int {
	places := placesOf(text)
	for _, x := range list {
		if at, there := places[x]; there {
			return at + 1
		}
	}
	return 0
}

func placesOf(text []api.Elem) map[api.Elem]int {
	places := make(map[api.Elem]int, len(text))
	for at, x := range text {
		places[x] = at
	}
	return places
}
