package room

import (
	"jotter/api"
	"jotter/desk"
	"jotter/script"
)

// play plays a line of a script. One that script refuses is no step of the system.
func (r *Room) play(s said) (string, api.Errno) {
	entry := script.Line(s.line)
	if entry.Err != api.OK {
		return "", entry.Err
	}
	step := r.system.Do(entry)
	return done(step.Count), step.Err
}

func (r *Room) typeIn(s said) (string, api.Errno) {
	return r.atDesk(s, func(d *desk.Desk) api.Errno { return d.Type(s.text) })
}

func (r *Room) erase(s said) (string, api.Errno) {
	return r.atDesk(s, func(d *desk.Desk) api.Errno { return d.Erase(s.numbers[1]) })
}

func (r *Room) move(s said) (string, api.Errno) {
	return r.atDesk(s, func(d *desk.Desk) api.Errno { return d.Move(s.numbers[1]) })
}

func (r *Room) replace(s said) (string, api.Errno) {
	return r.atDesk(s, func(d *desk.Desk) api.Errno { return d.Replace(s.text) })
}

func (r *Room) undo(s said) (string, api.Errno) { return r.atDesk(s, (*desk.Desk).Undo) }

func (r *Room) redo(s said) (string, api.Errno) { return r.atDesk(s, (*desk.Desk).Redo) }

// atDesk does something at a client's desk, and tells how many edits that made: each took one from what is left.
func (r *Room) atDesk(s said, do func(d *desk.Desk) api.Errno) (string, api.Errno) {
	d := r.deskOf(s)
	left := d.Left()
	e := do(d)
	return done(left - d.Left()), e
}

// deskOf gives the desk of the client that a line names.
func (r *Room) deskOf(s said) *desk.Desk { return r.desks[s.numbers[0]-1] }
