package client

import (
	"slices"

	"jotter/api"
	"jotter/doc"
	"jotter/wire"
)

// Receive takes a datagram of the server's.
func (c *Client) Receive(b []byte) error {
	m, err := wire.Decode(b)
	if err != nil {
		return err
	}
	// All is looked at ahead of the first change, because a refused datagram leaves everything as it was.
	if e := c.check(m); e != api.OK {
		return api.Wrap(0, e)
	}
	c.take(m)
	return nil
}

// check tells why a message is refused.
func (c *Client) check(m api.Msg) api.Errno {
	switch m.Kind {
	case api.MInvite, api.MRecord, api.MBeat:
	default:
		return api.ErrStray
	}
	if m.Client != c.id {
		return api.ErrMine
	}
	if m.Kind == api.MInvite {
		return c.checkInvite(m)
	}
	return c.checkLink(m)
}

func (c *Client) checkInvite(m api.Msg) api.Errno {
	if m.Epoch < c.epoch {
		return api.ErrStale
	}
	return api.OK
}

// checkLink looks at what a Record and a Beat have in common, then at the record.
func (c *Client) checkLink(m api.Msg) api.Errno {
	switch {
	case m.Epoch != c.epoch:
		return api.ErrStale
	case m.Ack > c.link.Sent():
		return api.ErrAck
	case m.Kind == api.MRecord:
		return c.checkRecord(m)
	}
	return api.OK
}

// checkRecord looks at the operation only if the record's turn is now: of a duplicate it does not count, and an early one is looked at when its turn comes.
func (c *Client) checkRecord(m api.Msg) api.Errno {
	cum := c.link.Cum()
	switch {
	case m.Rev != c.base+m.Num:
		return api.ErrRev
	case m.Num > cum+api.Reorder:
		return api.ErrFar
	case m.Num == cum+1:
		return c.acceptable(m.Op)
	}
	return api.OK
}

// acceptable tells why the next record's operation cannot be taken in.
func (c *Client) acceptable(op api.Op) api.Errno {
	if op.Client == c.id {
		return c.acceptableOwn(op)
	}
	if op.Seq != c.told[op.Client]+1 {
		return api.ErrStrange
	}
	past, e := c.forms.Look(op)
	if e != api.OK || doc.Fits(len(c.text), past) != api.OK {
		return api.ErrStrange
	}
	return api.OK
}

func (c *Client) acceptableOwn(op api.Op) api.Errno {
	queue := c.forms.Queue()
	if len(queue) == 0 || queue[0].Op != op {
		return api.ErrOwn
	}
	return api.OK
}

// take changes what a message without error changes.
func (c *Client) take(m api.Msg) {
	if m.Kind == api.MInvite {
		c.enter(m.Epoch)
		return
	}
	c.state = joined{}
	c.link.Ack(m.Ack)
	if m.Kind == api.MRecord {
		c.hold(m.Num, m.Op)
	}
}

// enter begins an epoch, if it is a new one.
func (c *Client) enter(epoch int) {
	if epoch == c.epoch {
		return
	}
	c.base = c.have() // ahead of the restart, which counts records from 0 again
	c.epoch = epoch
	c.state = apart{}
	c.link.restart(c.pending)
}

// hold puts a record's operation into the inbox, and takes in all whose turn it is. What the inbox refuses is a duplicate, which brings no turn: a record too far ahead was refused before.
func (c *Client) hold(num int, op api.Op) {
	if c.link.Put(num, op) != api.OK {
		return
	}
	for {
		next, here := c.link.Head()
		if !here {
			return
		}
		if c.acceptable(next) != api.OK {
			c.link.Toss()
			return
		}
		c.link.Pop()
		c.takeIn(next)
	}
}

// takeIn takes in an acceptable operation. The client's own changes no text: it holds there since it was made.
func (c *Client) takeIn(op api.Op) {
	if op.Client == c.id {
		c.pending = slices.Delete(c.pending, 0, 1)
		c.forms.DropTo(op.Seq)
		return
	}
	c.told[op.Client] = op.Seq
	if past, e := c.forms.Cross(op); e == api.OK {
		c.apply(past)
	}
}
