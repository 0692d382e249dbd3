package wire

import (
	"math/bits"

	"jotter/api"
)

// The fields of messages and of items. In bytes those of every kind stand in this order, and they are looked at in it.
const (
	kind = iota
	epoch
	client
	have
	first
	num
	ack
	rev
	tag
	opKind
	opPos
	opCh
	opClient
	opSeq
	fields
)

// set is a set of fields: bit f is set if it holds field f.
type set uint16

const (
	head      set = 1<<epoch | 1<<client
	operation set = 1<<opKind | 1<<opPos | 1<<opCh | 1<<opClient | 1<<opSeq

	// All that a message or an item has, its kind apart.
	msgFields  set = head | 1<<have | 1<<first | 1<<num | 1<<ack | 1<<rev | 1<<tag | operation
	itemFields set = 1<<epoch | 1<<tag | operation

	// wide are those that take two bytes; the others take one.
	wide set = 1<<have | 1<<num | 1<<ack | 1<<rev | 1<<tag | 1<<opPos
)

func (s set) has(f int) bool { return s>>f&1 == 1 }

// layout tells what stands behind the kind of a message or an item.
type layout struct {
	named set
	own   bool // the operation's maker is the message's client
}

// size is the number of bytes, the kind's among them.
func (l layout) size() int {
	return 1 + bits.OnesCount16(uint16(l.named)) + bits.OnesCount16(uint16(l.named&wide))
}

// msgLayout gives the layout of a kind of messages; that of no kind names nothing.
func msgLayout(kind int) layout {
	switch kind {
	case api.MHello:
		return layout{named: head | 1<<have | 1<<first}
	case api.MEdit:
		return layout{named: head | 1<<num | 1<<ack | 1<<tag | operation, own: true}
	case api.MNod, api.MBeat:
		return layout{named: head | 1<<ack}
	case api.MInvite:
		return layout{named: head}
	case api.MRecord:
		return layout{named: head | 1<<num | 1<<ack | 1<<rev | operation}
	}
	return layout{}
}

// itemLayout gives the layout of a kind of items; that of no kind names nothing.
func itemLayout(kind int) layout {
	switch kind {
	case api.LBoot:
		return layout{named: 1 << epoch}
	case api.LEdit:
		return layout{named: 1<<tag | operation}
	}
	return layout{}
}

// limits holds the least and the greatest value of each field, where no other field narrows them. The kind has none here: its layout tells whether it may be.
var limits = [fields]struct{ least, most int }{
	epoch:    {1, api.MaxEpoch},
	client:   {1, api.MaxClients},
	have:     {0, api.MaxLog},
	first:    {1, api.MaxEdits + 1},
	num:      {1, api.MaxNum},
	ack:      {0, api.MaxNum},
	rev:      {1, api.MaxLog},
	tag:      {0, api.MaxLog},
	opKind:   {api.Nop, api.Delete},
	opPos:    {0, api.MaxDoc - 1},
	opCh:     {api.LeastCh, api.MostCh},
	opClient: {1, api.MaxClients},
	opSeq:    {1, api.MaxEdits},
}

// allows tells whether field f may hold what it holds. The fields ahead of it have been allowed.
func (l layout) allows(v values, f int) bool {
	least, most := limits[f].least, limits[f].most
	switch {
	case !l.named.has(f), f == opPos && v[opKind] == api.Nop, f == opCh && v[opKind] != api.Insert:
		least, most = 0, 0
	case f == opClient && l.own:
		least, most = v[client], v[client]
	}
	return least <= v[f] && v[f] <= most
}
