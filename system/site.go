package system

import (
	"jotter/api"
	"jotter/client"
	"jotter/server"
)

// site is who gets datagrams: a client or the server.
type site interface {
	Receive(b []byte) error
}

// at gives the site of an address (0: the server), or none, if that is down.
func (x *System) at(address int) site {
	switch {
	case address > 0:
		return x.clients[address-1]
	case x.server != nil:
		return x.server
	}
	return nil
}

// tick lets a site send, and tells how many of its datagrams went into flight: what a full network loses is lost. A server that is down sends nothing.
func (x *System) tick(address int) int {
	var said []api.Datagram
	switch s := x.at(address).(type) {
	case *client.Client:
		for _, b := range s.Tick() {
			said = append(said, api.Datagram{From: address, Bytes: b})
		}
	case *server.Server:
		said = x.tickServer(s)
	}
	sent := 0
	for _, g := range said {
		if x.net.Send(g.From, g.To, g.Bytes) == api.OK {
			sent++
		}
	}
	return sent
}

// tickServer gives what the server sends, and shows its synced text, if that has grown. The disk tells whether it has: a server's start syncs its boot, so the tail of one that is up holds edits alone.
func (x *System) tickServer(s *server.Server) []api.Datagram {
	firm := x.disk.Synced()
	said := s.Tick()
	if x.disk.Synced() > firm {
		v := s.View()
		x.show(api.Event{Have: v.Synced, Doc: v.Told})
	}
	return said
}

// hand gives bytes to a site, as they have come there, and tells why it refuses them.
func (x *System) hand(address int, b []byte) api.Errno {
	switch s := x.at(address).(type) {
	case *client.Client:
		if err := s.Receive(b); err != nil {
			return api.Code(err)
		}
		x.tookIn(s.View())
		return api.OK
	case *server.Server:
		return api.Code(s.Receive(b))
	}
	return api.ErrDown
}

// tookIn shows a client's text, if a datagram brought it records. Its records come by datagrams alone, so it had just those ahead of this one that it has shown.
func (x *System) tookIn(v api.ClientView) {
	if v.Have > x.tale.last[v.ID].Have {
		x.show(api.Event{Site: v.ID, Have: v.Have, Made: v.Made, Doc: v.Doc})
	}
}

// show puts an event of the entry that is being played behind the others.
func (x *System) show(e api.Event) {
	e.Step = len(x.steps)
	x.tale.add(e)
}
