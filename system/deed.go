package system

import (
	"jotter/api"
	"jotter/book"
	"jotter/server"
)

// deed is what the entries of one kind do.
type deed struct {
	bar  func(e api.Entry) api.Errno        // why none of them is played here, as things stand
	play func(e api.Entry) (int, api.Errno) // what comes of it: how many, and why not
}

// deeds gives what each kind does to this system.
func (x *System) deeds() [api.EForge + 1]deed {
	open := func(api.Entry) api.Errno { return api.OK }
	return [...]deed{
		api.EInsert:  {x.noClient, x.insert},
		api.EDelete:  {x.noClient, x.remove},
		api.ETick:    {x.noSite, func(e api.Entry) (int, api.Errno) { return x.tick(e.Site), api.OK }},
		api.EDeliver: {open, func(e api.Entry) (int, api.Errno) { return x.deliver(e.A) }},
		api.EDrop:    {open, func(e api.Entry) (int, api.Errno) { return one(x.net.Drop(e.A)) }},
		api.EDouble:  {open, func(e api.Entry) (int, api.Errno) { return one(x.net.Double(e.A)) }},
		api.EFlip:    {open, func(e api.Entry) (int, api.Errno) { return one(x.net.Flip(e.A, e.B, e.C)) }},
		api.EAll:     {open, func(api.Entry) (int, api.Errno) { return x.deliverAll(), api.OK }},
		api.ERound:   {open, func(api.Entry) (int, api.Errno) { return x.round(), api.OK }},
		api.ECrash:   {x.isDown, x.crash},
		api.EBoot:    {x.isUp, x.boot},
		api.EStumble: {x.isUp, x.stumble},
		api.EForge:   {x.noSite, func(e api.Entry) (int, api.Errno) { return 0, x.hand(e.Site, e.Bytes) }},
	}
}

// play does what an entry asks for, and gives its step's Count and Err.
func (x *System) play(e api.Entry) (int, api.Errno) {
	if e.Err != api.OK {
		return 0, e.Err
	}
	if e.Kind < api.EInsert || e.Kind > api.EForge {
		return 0, api.ErrVerb
	}
	d := x.deeds()[e.Kind]
	if bad := d.bar(e); bad != api.OK {
		return 0, bad
	}
	return d.play(e)
}

// noClient bars an entry for a client that is not here.
func (x *System) noClient(e api.Entry) api.Errno {
	if !x.isClient(e.Site) {
		return api.ErrSite
	}
	return api.OK
}

// noSite bars an entry for a site that is not here, or down.
func (x *System) noSite(e api.Entry) api.Errno {
	if e.Site == 0 {
		return x.isDown(e)
	}
	return x.noClient(e)
}

func (x *System) isDown(api.Entry) api.Errno {
	if x.server == nil {
		return api.ErrDown
	}
	return api.OK
}

func (x *System) isUp(api.Entry) api.Errno {
	if x.server != nil {
		return api.ErrUp
	}
	return api.OK
}

// one gives the count of what was done to one datagram.
func one(bad api.Errno) (int, api.Errno) {
	if bad != api.OK {
		return 0, bad
	}
	return 1, api.OK
}

func (x *System) insert(e api.Entry) (int, api.Errno) {
	edit, bad := x.clients[e.Site-1].Insert(e.A, int(e.Ch))
	return 0, x.made(edit, bad)
}

func (x *System) remove(e api.Entry) (int, api.Errno) {
	edit, bad := x.clients[e.Site-1].Delete(e.A)
	return 0, x.made(edit, bad)
}

// made shows what a client's edit came to, unless it was refused.
func (x *System) made(edit api.Edit, bad api.Errno) api.Errno {
	if bad == api.OK {
		id := edit.Op.Client
		x.show(api.Event{Site: id, Have: edit.Tag, Made: edit.Op.Seq, Op: edit.Op, Doc: x.clients[id-1].Doc()})
	}
	return bad
}

// deliver takes the i-th oldest datagram out of flight, and hands it to its site. Whatever that answers, one is out of flight.
func (x *System) deliver(i int) (int, api.Errno) {
	g, bad := x.net.Deliver(i)
	if bad != api.OK {
		return 0, bad
	}
	return 1, x.hand(g.To, g.Bytes)
}

// deliverAll delivers what is in flight, and tells how many that were. No site answers at once, so none is added meanwhile.
func (x *System) deliverAll() int {
	count := x.net.Count()
	for range count {
		x.deliver(0)
	}
	return count
}

// round lets all clients tick, then the server, and tells how many datagrams went into flight.
func (x *System) round() int {
	sent := 0
	for i := range x.clients {
		sent += x.tick(i + 1)
	}
	return sent + x.tick(0)
}

// crash lets the server be gone, and tells how many bytes of the tail went with it.
func (x *System) crash(e api.Entry) (int, api.Errno) {
	if x.server.View().Epoch == api.MaxEpoch {
		return 0, api.ErrEpochs
	}
	tail := x.disk.Size() - x.disk.Synced()
	if bad := x.disk.Crash(e.A, e.B, e.C); bad != api.OK {
		return 0, bad
	}
	x.server = nil
	return tail - e.A, api.OK
}

// boot starts the server, and tells how many bytes that cut off. A start is never refused: neither a crash nor a stumble leaves the last epoch behind it.
func (x *System) boot(api.Entry) (int, api.Errno) {
	size := x.disk.Size()
	s, why := server.Start(x.disk, len(x.clients))
	x.server = s
	v := s.View()
	x.show(api.Event{Have: v.Revs, Doc: v.Doc})
	return cutOff(size, why), api.OK
}

// stumble starts a server that dies ahead of its sync, and tells how many bytes its opening cut off. It works on another disk: one that is refused leaves this one as it was, uncut too.
func (x *System) stumble(e api.Entry) (int, api.Errno) {
	d := x.twinDisk()
	size := d.Size()
	b, why := book.Open(d)
	if b.Epoch() > api.MaxEpoch-2 {
		return 0, api.ErrEpochs
	}
	b.Boot()
	if bad := d.Crash(e.A, e.B, e.C); bad != api.OK {
		return 0, bad
	}
	x.disk = d
	return cutOff(size, why), api.OK
}

// cutOff tells how many bytes of a disk of that size an opening cut off: the place of its error is where the disk was cut.
func cutOff(size int, why error) int {
	if why == nil {
		return 0
	}
	return size - api.Place(why)
}
