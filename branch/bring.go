package branch

import (
	"jotter/api"
	"jotter/diff"
	"jotter/ot"
	"jotter/revision"
)

// brought is a text that comes back, when the log has gone on.
type brought struct {
	head string   // the text behind all records
	came []api.Op // what the log changed meanwhile
	line []api.Op // what the branch changed, as it stands behind that
}

// bring carries what a text has that its base has not past all that came meanwhile.
func bring(p *revision.Past, base int, text string) (brought, api.Errno) {
	was, e := p.Text(base)
	if e != api.OK {
		return brought{}, api.ErrBase
	}
	apart, e := diff.Between(was, text, 1, 1)
	if e != api.OK {
		return brought{}, api.ErrSplit
	}
	head, _ := p.Text(p.Revs())
	came, _ := p.Changes(base, p.Revs())
	return brought{head: head, came: came, line: carried(apart, came)}, api.OK
}

// bringWhole refuses what has no room as well. Rebase has a refusal of its own ahead of that one.
func bringWhole(p *revision.Past, base int, text string) (brought, api.Errno) {
	b, e := bring(p, base, text)
	if e == api.OK && b.full() {
		return brought{}, api.ErrFull
	}
	return b, e
}

// carried gives a line as it stands behind others, that come first and each of which was made behind the one before it. Weave refuses none: what a past changes is never more than there are records.
func carried(line []api.Op, others ...[]api.Op) []api.Op {
	for _, other := range others {
		_, line, _ = ot.Weave(other, line)
	}
	return line
}

// working gives the operations of the line of which something is left to do.
func (b brought) working() []api.Op {
	var ops []api.Op
	for _, op := range b.line {
		if op.Kind != api.Nop {
			ops = append(ops, op)
		}
	}
	return ops
}

// full tells whether there is no room for all that the line puts in. What it takes away makes no room.
func (b brought) full() bool {
	size := len(b.head)
	for _, op := range b.line {
		if op.Kind == api.Insert {
			size++
		}
	}
	return size > api.MaxDoc
}
