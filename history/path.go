package history

import (
	"iter"
	"slices"

	"jotter/api"
	"jotter/doc"
	"jotter/ot"
)

// hand is a site on its way along its path, without its text: to tell whether an operation fits, the text's length is enough. The server's hand makes no edit.
type hand struct {
	id    int
	still []deed // the edits that it has not made yet
	made  int
	have  int
	forms []api.Op // its edits whose records it has not taken in, as they stand now
	size  int
}

func (t *tale) hand(site int) *hand { return &hand{id: site, still: t.deeds[site]} }

// due tells whether its next edit is to be made ahead of the next record.
func (x *hand) due() bool { return len(x.still) > 0 && x.still[0].edit.Tag == x.have }

// makeNext makes its next edit, and gives what is applied to its text.
func (x *hand) makeNext() api.Op {
	op := x.fitting(x.still[0].edit.Op)
	x.still = x.still[1:]
	x.made++
	x.forms = append(x.forms, op)
	return op
}

// takeIn takes in a record, and gives what is applied to its text. Of its own record that is nothing: it holds there since it was made.
func (x *hand) takeIn(record api.Op) api.Op {
	x.have++
	if record.Client == x.id {
		x.forms = x.forms[1:]
		return nothing(record)
	}
	// No line is too long for Through: nobody makes more than MaxEdits.
	op, forms, _ := ot.Through(record, x.forms, false)
	x.forms = forms
	return x.fitting(op)
}

// fitting gives the operation, or nothing if it does not fit the text, whose length becomes what it is behind it.
func (x *hand) fitting(op api.Op) api.Op {
	switch {
	case doc.Fits(x.size, op) != api.OK:
		return nothing(op)
	case op.Kind == api.Insert:
		x.size++
	case op.Kind == api.Delete:
		x.size--
	}
	return op
}

// paths is a tale with the done forms of its log: behind them each site's path can be gone along for itself.
type paths struct {
	*tale
	done []api.Op
}

// follow computes the done forms, all clients going along their paths together.
func (t *tale) follow() paths {
	var hands []*hand
	for client := 1; client <= t.Clients; client++ {
		hands = append(hands, t.hand(client))
	}
	done := make([]api.Op, 0, len(t.Log))
	for _, e := range t.Log {
		for _, x := range hands {
			for x.due() {
				x.makeNext()
			}
		}
		// The edit's tag is not above its place in the log, so it has been made by now.
		record := hands[e.Op.Client-1].forms[0]
		for _, x := range hands {
			x.takeIn(record)
		}
		done = append(done, record)
	}
	return paths{t, done}
}

// states goes along a site's path: the operation that brought the site to a state (the zero Op at the beginning), and the state, whose text is new memory.
func (f paths) states(site int) iter.Seq2[api.Op, api.View] {
	return func(yield func(api.Op, api.View) bool) {
		x := f.hand(site)
		var op api.Op
		var text []api.Elem
		for yield(op, api.View{Have: x.have, Made: x.made, Doc: text}) {
			switch {
			case x.due():
				op = x.makeNext()
			case x.have < len(f.done):
				op = x.takeIn(f.done[x.have])
			default:
				return
			}
			text, _ = doc.Apply(text, op) // the hand has seen to it that it fits
		}
	}
}

// side tells on which side of b the element a stands in the first state of a site that holds both: 1: ahead; -1: behind; 0: there is none. Only a state to which the insertion of one of them led can be the first.
func (f paths) side(site int, a, b api.Elem) int {
	for op, v := range f.states(site) {
		if x := elemOf(op); x != a && x != b {
			continue
		}
		i, j := slices.Index(v.Doc, a), slices.Index(v.Doc, b)
		switch {
		case i < 0 || j < 0:
		case i < j:
			return 1
		default:
			return -1
		}
	}
	return 0
}

// nothing is the Nop of the edit that an operation comes from.
func nothing(op api.Op) api.Op { return api.Op{Kind: api.Nop, Client: op.Client, Seq: op.Seq} }
