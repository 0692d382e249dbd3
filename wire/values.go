package wire

import "jotter/api"

// values holds what the fields of a message or an item hold, so that one rule serves them all. What it has no field for is 0.
type values [fields]int

func ofMsg(m api.Msg) values {
	v := values{kind: m.Kind, epoch: m.Epoch, client: m.Client, have: m.Have, first: m.First, num: m.Num, ack: m.Ack, rev: m.Rev, tag: m.Tag}
	return v.with(m.Op)
}

func ofItem(x api.Item) values {
	v := values{kind: x.Kind, epoch: x.Epoch, tag: x.Tag}
	return v.with(x.Op)
}

func (v values) with(op api.Op) values {
	v[opKind], v[opPos], v[opCh], v[opClient], v[opSeq] = op.Kind, op.Pos, int(op.Ch), op.Client, op.Seq
	return v
}

func (v values) msg() api.Msg {
	return api.Msg{Kind: v[kind], Epoch: v[epoch], Client: v[client], Have: v[have], First: v[first], Num: v[num], Ack: v[ack], Rev: v[rev], Tag: v[tag], Op: v.op()}
}

func (v values) item() api.Item {
	return api.Item{Kind: v[kind], Epoch: v[epoch], Tag: v[tag], Op: v.op()}
}

func (v values) op() api.Op {
	return api.Op{Kind: v[opKind], Pos: v[opPos], Ch: byte(v[opCh]), Client: v[opClient], Seq: v[opSeq]}
}
