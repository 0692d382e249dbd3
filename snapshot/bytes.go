package snapshot

import (
	"jotter/api"
	"jotter/octet"
)

// heading is what all snapshots begin with.
const heading = "JOTS"

// Bytes gives a state's bytes: one state, one encoding.
func (s *Snap) Bytes() []byte {
	b := octet.Put16([]byte(heading), uint64(s.Revs()))
	b = putAll(b, s.records, func(op api.Op) []byte {
		return append(formBytes(op), op.Ch, byte(op.Client), byte(op.Seq))
	})
	b = putAll(b, s.members(), func(client int) []byte {
		tag := octet.Put16(nil, uint64(s.sides[client].tag))
		return putAll(tag, s.Waiting(client), func(m api.Marked) []byte { return formBytes(m.Op) })
	})
	return octet.Seal(b)
}

// putAll puts a list's things behind b, which must be the caller's own. Each thing's bytes are made apart, because octet's Put copies all that it is given.
func putAll[T any](b []byte, list []T, one func(T) []byte) []byte {
	for _, x := range list {
		b = append(b, one(x)...)
	}
	return b
}

// formBytes gives the part of an operation that a waiting form has of its own; what else it has is its record's.
func formBytes(op api.Op) []byte {
	return octet.Put16(octet.Put8(nil, uint64(op.Kind)), uint64(op.Pos))
}

// members gives the clients that have a record, rising.
func (s *Snap) members() []int {
	var list []int
	for client, x := range s.sides {
		if x.seq > 0 {
			list = append(list, client)
		}
	}
	return list
}
