package server

import (
	"jotter/api"
	"jotter/inbox"
	"jotter/outbox"
)

// session is what the server has with one client in its epoch: records go out, edits come in.
type session struct {
	base    int                 // how many records the client had
	from    int                 // the Seq of the edit that has the number 1
	records *outbox.Outbox[int] // their Revs: the rest is the book's
	edits   *inbox.Inbox[api.Edit]
}

// newSession opens a session. Neither half refuses: both sizes are constants within their limits.
func newSession(base, from int) *session {
	records, _ := outbox.New[int](api.Window)
	edits, _ := inbox.New[api.Edit](api.Reorder)
	return &session{base: base, from: from, records: records, edits: edits}
}

// number gives a number to each record up to that one that has none yet. There are numbers enough: no log is longer than they go.
func (x *session) number(revs int) {
	for rev := x.base + x.records.Last() + 1; rev <= revs; rev++ {
		x.records.Push(rev)
	}
}

// sent tells up to which record the client may have been told.
func (x *session) sent() int { return x.base + x.records.Sent() }

// view tells what can be seen of it (nothing, if it is not open).
func (x *session) view() api.LinkView {
	if x == nil {
		return api.LinkView{}
	}
	return api.LinkView{Open: true, Base: x.base, From: x.from, Sent: x.records.Sent(), Got: x.records.Acked(), Cum: x.edits.Cum()}
}
