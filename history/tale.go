package history

import (
	"jotter/api"
	"jotter/doc"
)

// server is the Site of the server.
const server = 0

// none is the number of the event that takes the place of a site's missing one.
const none = -1

// tale is a history that Check lets through, sorted by its sites.
type tale struct {
	api.History
	logged [api.MaxClients + 1][]int  // by client and Seq - 1: the edit's place in the log
	shown  [api.MaxClients + 1][]int  // by site: the numbers of its events
	deeds  [api.MaxClients + 1][]deed // by client and Seq - 1
}

// deed is an edit as its event makes it, with the element that it made or took away.
type deed struct {
	edit api.Edit
	elem api.Elem
}

// read goes through a history, up to the first thing that cannot be.
func read(h api.History) (*tale, error) {
	if h.Clients < 1 || h.Clients > api.MaxClients {
		return nil, api.Wrap(0, api.ErrHistClients)
	}
	if len(h.Log) > api.MaxLog {
		return nil, api.Wrap(0, api.ErrHistLong)
	}
	t := &tale{History: h}
	for k, e := range h.Log {
		if !t.canLog(k, e) {
			return nil, api.Wrap(k, api.ErrHistLog)
		}
		t.logged[e.Op.Client] = append(t.logged[e.Op.Client], k)
	}
	for i, e := range h.Events {
		if !t.canFollow(i, e) || !t.canShow(e) {
			return nil, api.Wrap(i, api.ErrHistEvent)
		}
		t.show(i, e)
	}
	for k, e := range h.Log {
		if e.Op.Seq > len(t.deeds[e.Op.Client]) {
			return nil, api.Wrap(k, api.ErrHistLog)
		}
	}
	return t, nil
}

// canLog tells whether an edit can be the log's edit k.
func (t *tale) canLog(k int, e api.Edit) bool {
	if !isEdit(e.Op) || e.Op.Client > t.Clients {
		return false
	}
	own := t.logged[e.Op.Client]
	least := 0
	if len(own) > 0 {
		least = t.Log[own[len(own)-1]].Tag
	}
	return e.Op.Seq == len(own)+1 && e.Tag >= least && e.Tag <= k
}

// canFollow looks at what does not hang on the event before: the site, the step, the length of the text.
func (t *tale) canFollow(i int, e api.Event) bool {
	step := 0
	if i > 0 {
		step = t.Events[i-1].Step
	}
	return e.Site >= server && e.Site <= t.Clients && e.Step >= step && len(e.Doc) <= api.MaxDoc
}

// canShow looks at what hangs on the event before.
func (t *tale) canShow(e api.Event) bool {
	p := t.event(t.last(e.Site))
	switch {
	case e.Have < p.Have || e.Have > len(t.Log):
		return false
	case e.Site == server:
		return e.Made == 0 && !makes(e)
	case makes(e):
		return t.canMake(p, e)
	}
	return e.Made == p.Made && !t.hasUnmade(e)
}

// canMake looks at an edit event, p being the event before.
func (t *tale) canMake(p, e api.Event) bool {
	next := e.Op.Client == e.Site && e.Op.Seq == e.Made && e.Made == p.Made+1 && e.Have == p.Have
	return next && isEdit(e.Op) && doc.Fits(len(p.Doc), e.Op) == api.OK && t.isAsLogged(editOf(e))
}

// hasUnmade tells whether the client has taken in a record of an edit that it has not made. Its Seqs rise in the log, so the next one tells.
func (t *tale) hasUnmade(e api.Event) bool {
	own := t.logged[e.Site]
	return e.Made < len(own) && own[e.Made] < e.Have
}

// isAsLogged tells whether an edit is the log's, if the log has one of its name.
func (t *tale) isAsLogged(e api.Edit) bool {
	own := t.logged[e.Op.Client]
	return e.Op.Seq > len(own) || t.Log[own[e.Op.Seq-1]] == e
}

// show puts an event that can be behind the others of its site.
func (t *tale) show(i int, e api.Event) {
	if makes(e) {
		d := deed{editOf(e), elemOf(e.Op)}
		if e.Op.Kind == api.Delete {
			d.elem = t.event(t.last(e.Site)).Doc[e.Op.Pos]
		}
		t.deeds[e.Site] = append(t.deeds[e.Site], d)
	}
	t.shown[e.Site] = append(t.shown[e.Site], i)
}

// last tells the number of the site's last event up to now.
func (t *tale) last(site int) int {
	list := t.shown[site]
	if len(list) == 0 {
		return none
	}
	return list[len(list)-1]
}

// event gives the event of that number; none has had nothing and shows nothing.
func (t *tale) event(i int) api.Event {
	if i == none {
		return api.Event{}
	}
	return t.Events[i]
}

// deed gives what the edit did that an operation comes from.
func (t *tale) deed(op api.Op) deed { return t.deeds[op.Client][op.Seq-1] }

// sightAt gives what an event has to show. The client's own edits that are in the log are seen twice, which changes nothing.
func (t *tale) sightAt(e api.Event) *sight {
	s := newSight()
	for _, x := range t.Log[:e.Have] {
		s.see(t.deed(x.Op))
	}
	for _, d := range t.deeds[e.Site][:e.Made] {
		s.see(d)
	}
	return s
}

// inserted tells whether some edit made just that element.
func (t *tale) inserted(x api.Elem) bool {
	for _, own := range t.deeds {
		for _, d := range own {
			if d.edit.Op.Kind == api.Insert && d.elem == x {
				return true
			}
		}
	}
	return false
}

// makes tells whether an event is an edit event.
func makes(e api.Event) bool { return e.Op != api.Op{} }

// editOf gives the edit that an edit event makes.
func editOf(e api.Event) api.Edit { return api.Edit{Tag: e.Have, Op: e.Op} }

// elemOf gives the element that an insertion makes.
func elemOf(op api.Op) api.Elem { return api.Elem{Ch: op.Ch, Client: op.Client, Seq: op.Seq} }

func isEdit(op api.Op) bool { return op.Kind != api.Nop && doc.Valid(op) == api.OK }
