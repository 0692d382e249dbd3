package client

import (
	"jotter/api"
	"jotter/wire"
)

// state is how a client stands with the server in an epoch.
type state interface {
	// open tells whether the server has answered in this epoch.
	open() bool
	// says gives what is to be sent at a tick: the fields that the kind of the message asks for, without the epoch and the client.
	says(c *Client) []api.Msg
}

// apart: the server has not answered yet.
type apart struct{}

func (apart) open() bool { return false }

// says does not ask what is due: nothing counts as sent as long as no edit can go out.
func (apart) says(c *Client) []api.Msg {
	return []api.Msg{{Kind: api.MHello, Have: c.have(), First: c.first()}}
}

// joined: the server has answered.
type joined struct{}

func (joined) open() bool { return true }

func (joined) says(c *Client) []api.Msg {
	var msgs []api.Msg
	ack := c.link.Cum()
	for _, item := range c.link.Due() {
		msgs = append(msgs, api.Msg{Kind: api.MEdit, Num: item.Num, Ack: ack, Tag: item.What.Tag, Op: item.What.Op})
	}
	if len(msgs) == 0 {
		msgs = append(msgs, api.Msg{Kind: api.MNod, Ack: ack})
	}
	return msgs
}

// encode gives the datagrams of messages of this client, in its epoch. None is left out: the limits on edits and records keep each number within its field.
func (c *Client) encode(msgs []api.Msg) [][]byte {
	datagrams := make([][]byte, 0, len(msgs))
	for _, m := range msgs {
		m.Epoch, m.Client = c.epoch, c.id
		if b, err := wire.Encode(m); err == nil {
			datagrams = append(datagrams, b)
		}
	}
	return datagrams
}
