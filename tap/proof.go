package tap

import "jotter/api"

// proof is what a message proves beside its epoch: a record, a deed, or nothing (nil).
type proof any

// record is what a Record proves: which operation has that number in the log.
type record struct {
	rev int
	op  api.Op
}

// deed is what an Edit proves: that its client made it.
type deed struct{ edit api.Edit }

// maker tells who made an edit, and as which of its edits.
type maker struct{ client, seq int }

// trace is what is known of one edit. The one does not tell the other: either may be seen alone.
type trace struct {
	edit api.Edit
	made bool // edit was seen
	rev  int  // its record's number (0: none is known)
}

// goesSo tells whether a message is one that goes from the one to the other.
func goesSo(m api.Msg, from, to int) bool {
	switch m.Kind {
	case api.MInvite, api.MRecord, api.MBeat:
		return from == 0 && to == m.Client
	}
	return from == m.Client && to == 0
}

func proofOf(m api.Msg) proof {
	switch m.Kind {
	case api.MRecord:
		return record{m.Rev, m.Op}
	case api.MEdit:
		return deed{api.Edit{Tag: m.Tag, Op: m.Op}}
	}
	return nil
}

// learn notes what is proved, unless something that is known speaks against it.
func (t *Tap) learn(p proof) error {
	switch p := p.(type) {
	case record:
		who := makerOf(p.op)
		x := t.traces[who]
		if t.deniesRecord(p, x) {
			return api.Wrap(p.rev, api.ErrTwo)
		}
		x.rev = p.rev
		t.traces[who], t.records[p.rev] = x, p.op
	case deed:
		who := makerOf(p.edit.Op)
		x := t.traces[who]
		if t.deniesDeed(p, x) {
			return api.Wrap(who.seq, api.ErrTwo)
		}
		x.edit, x.made = p.edit, true
		t.traces[who] = x
	}
	return nil
}

// deniesRecord tells whether something that is known speaks against a record; x is what is known of its edit.
func (t *Tap) deniesRecord(r record, x trace) bool {
	op, known := t.records[r.rev]
	return known && op != r.op || x.rev != 0 && x.rev != r.rev || x.made && !goTogether(r.op, x.edit.Op)
}

// deniesDeed tells whether what is known of an edit speaks against its having been made so.
func (t *Tap) deniesDeed(d deed, x trace) bool {
	return x.made && x.edit != d.edit || x.rev != 0 && !goTogether(t.records[x.rev], d.edit.Op)
}

// goTogether tells whether a record can be what an edit has come to. Their places may differ: others' records carry it on.
func goTogether(done, made api.Op) bool {
	return done.Kind == made.Kind && done.Ch == made.Ch || done.Kind == api.Nop && made.Kind == api.Delete
}

func makerOf(op api.Op) maker { return maker{op.Client, op.Seq} }
