package book

import (
	"jotter/api"
	"jotter/doc"
	"jotter/space"
	"jotter/wire"
)

// order is the one order of all edits and boots, apart from the log that they are laid in.
type order struct {
	starts []int // of each boot: how many records stand ahead of it
	edits  []api.Edit
	done   []api.Op
	revs   map[maker]int
	// unseen has, of each client with a record, the others' records that its last tag does not cover. It is nil for any other client: that one has seen nothing, so all of done stands there, and need not be kept once more for each.
	unseen [api.MaxClients + 1]*space.Space
}

// maker tells who made a record, and as which of its edits.
type maker struct{ client, seq int }

// stuck is what a replay panics with when it meets an item that cannot stand.
type stuck struct{ reason error }

// gaveUp gives the error of a replay that panicked with why.
func gaveUp(at int, why any) error { return &api.Fault{At: at, Err: why.(stuck).reason} }

func newOrder() order { return order{revs: map[maker]int{}} }

func (o *order) epoch() int { return len(o.starts) }

func (o *order) items() int { return len(o.starts) + len(o.edits) }

// editsAmong tells how many of the first so many items are edits.
func (o *order) editsAmong(items int) int {
	edits := items
	for boots, ahead := range o.starts {
		if boots+ahead < items {
			edits--
		}
	}
	return edits
}

// last tells a client's last Seq and last tag. Its Seqs have no gap, so the last is the one behind which none stands.
func (o *order) last(client int) (seq int, tag int) {
	rev, there := o.revs[maker{client, 1}]
	for there {
		seq++
		tag = o.edits[rev-1].Tag
		rev, there = o.revs[maker{client, seq + 1}]
	}
	return seq, tag
}

// check tells why an edit cannot be added.
func (o *order) check(e api.Edit) api.Errno {
	if o.epoch() == 0 {
		return api.ErrUnborn
	}
	if bad := doc.Valid(e.Op); bad != api.OK {
		return bad
	}
	seq, tag := o.last(e.Op.Client)
	switch {
	case e.Op.Kind == api.Nop:
		return api.ErrNoEdit
	case e.Op.Seq <= seq:
		return api.ErrDone
	case e.Op.Seq > seq+1:
		return api.ErrTurn
	case e.Tag < tag || e.Tag > len(o.edits):
		return api.ErrTag
	case doc.Fits(o.length(e.Op.Client, e.Tag), e.Op) != api.OK:
		return api.ErrPlace
	}
	return api.OK
}

// length tells how many characters the client's text has, when it has taken in so many records and made all its edits that are here.
func (o *order) length(client int, tag int) int {
	x := o.unseen[client]
	if x == nil {
		return growth(o.done[:tag]...)
	}
	n := growth(o.done...)
	for _, m := range x.Queue() {
		if m.Mark > tag {
			n -= growth(m.Op)
		}
	}
	return n
}

// growth tells by how many characters these operations make a text longer.
func growth(ops ...api.Op) int {
	n := 0
	for _, op := range ops {
		switch op.Kind {
		case api.Insert:
			n++
		case api.Delete:
			n--
		}
	}
	return n
}

// start adds the next boot.
func (o *order) start() { o.starts = append(o.starts, len(o.edits)) }

// add takes in an edit that check lets through, and gives its done form.
func (o *order) add(e api.Edit) api.Op {
	own := o.meet(e.Op.Client)
	own.DropTo(e.Tag)
	op, _ := own.Cross(e.Op)
	o.edits = append(o.edits, e)
	o.done = append(o.done, op)
	rev := len(o.edits)
	o.revs[maker{e.Op.Client, e.Op.Seq}] = rev
	for client, x := range o.unseen {
		if x != nil && client != e.Op.Client {
			x.Keep(rev, op)
		}
	}
	return op
}

// meet gives what a client has not seen: at its first edit that is all that is here. The log comes first, ahead of what the client makes.
func (o *order) meet(client int) *space.Space {
	if o.unseen[client] == nil {
		x := space.New(true)
		for i, op := range o.done {
			x.Keep(i+1, op)
		}
		o.unseen[client] = x
	}
	return o.unseen[client]
}

// outcome gives the done forms and the text. The list is the order's own: only who throws that away may hand it out.
func (o *order) outcome() ([]api.Op, []api.Elem) {
	text, _, _ := doc.Replay(o.done...)
	return o.done, text
}

// mustRead takes in the next item of a log, or gives up.
func (o *order) mustRead(payload []byte) {
	item, err := wire.DecodeItem(payload)
	switch {
	case err != nil:
		panic(stuck{err})
	case item.Kind == api.LBoot:
		o.mustStart(item.Epoch)
	default:
		o.mustAdd(api.Edit{Tag: item.Tag, Op: item.Op})
	}
}

// mustStart takes in a boot, or gives up.
func (o *order) mustStart(epoch int) {
	if epoch != o.epoch()+1 {
		panic(stuck{api.ErrItem})
	}
	o.start()
}

// mustAdd takes in an edit, or gives up.
func (o *order) mustAdd(e api.Edit) {
	if bad := o.check(e); bad != api.OK {
		panic(stuck{bad})
	}
	o.add(e)
}
