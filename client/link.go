package client

import (
	"jotter/api"
	"jotter/inbox"
	"jotter/outbox"
)

// link is what the client has with the server in one epoch: edits go out, records come in. What either half can do, the link can, but for Reset, which both have.
type link struct {
	*outbox.Outbox[api.Edit]
	*inbox.Inbox[api.Op]
}

func newLink() (link, api.Errno) {
	out, e := outbox.New[api.Edit](api.Window)
	if e != api.OK {
		return link{}, e
	}
	in, e := inbox.New[api.Op](api.Reorder)
	if e != api.OK {
		return link{}, e
	}
	return link{out, in}, api.OK
}

// restart empties both halves, and numbers these edits anew.
func (l link) restart(edits []api.Edit) {
	l.Outbox.Reset()
	l.Inbox.Reset()
	for _, edit := range edits {
		l.Push(edit)
	}
}
