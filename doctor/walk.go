package doctor

import (
	"errors"
	"slices"

	"jotter/api"
	"jotter/book"
	"jotter/disk"
	"jotter/wal"
	"jotter/wire"
)

const (
	frameSize = 8                          // what a record has beside its payload (layer 3)
	longest   = api.MaxPayload + frameSize // no record is longer
)

// found is what lies at a place, and, if that is an item that is taken, the item.
type found struct {
	api.Finding
	item api.Item
}

func (f found) taken() bool { return f.Kind != 0 }

// walk goes over the bytes from the beginning to the end.
func walk(b []byte) []found {
	if len(b) > api.MaxDisk {
		return []found{none(0, len(b), api.ErrHuge)}
	}
	log, _ := book.Open(disk.New())
	var all []found
places:
	for at := 0; at < len(b); {
		payload, why := record(b, at)
		if why != api.OK {
			for next := at + 1; next < len(b); next++ {
				if _, e := record(b, next); e == api.OK {
					all = append(all, none(at, next-at, why))
					at = next
					continue places
				}
			}
			return append(all, none(at, len(b)-at, why))
		}
		f := examine(log, payload)
		f.At, f.Size = at, len(payload)+frameSize
		all = append(all, f)
		at += f.Size
	}
	return all
}

// good gives what is taken ahead of the first stretch that is none.
func good(all []found) []found {
	end := slices.IndexFunc(all, func(f found) bool { return !f.taken() })
	if end < 0 {
		return all
	}
	return all[:end]
}

// none is a stretch that is none, for that reason.
func none(at int, size int, why api.Errno) found {
	return found{Finding: api.Finding{At: at, Size: size, Err: why}}
}

// record gives the payload of the record that stands at a place, or the reason why none does. It looks no farther than a record can reach, because the scan goes on as far as records stand.
func record(b []byte, at int) ([]byte, api.Errno) {
	payloads, _, err := wal.Scan(b[at:min(at+longest, len(b))])
	if len(payloads) == 0 {
		return nil, reason(err)
	}
	return payloads[0], api.OK
}

// reason takes the number out of a fault of a layer below (OK: there is no fault).
func reason(err error) api.Errno {
	var fault *api.Fault
	if !errors.As(err, &fault) {
		return api.Code(err)
	}
	return api.Code(fault.Err)
}

// examine takes a whole record's item into the log, or tells why it cannot stand there. The place and the size are the caller's to add.
func examine(log *book.Book, payload []byte) found {
	x, err := wire.DecodeItem(payload)
	why := reason(err)
	if why == api.OK {
		why = take(log, x)
	}
	switch {
	case why != api.OK:
		return none(0, 0, why)
	case x.Kind == api.LBoot:
		return found{api.Finding{Kind: x.Kind, Epoch: x.Epoch}, x}
	}
	return found{api.Finding{Kind: x.Kind, Rev: log.Revs()}, x}
}

// take adds an item to the log, or tells why it cannot stand there.
func take(log *book.Book, x api.Item) api.Errno {
	if x.Kind == api.LEdit {
		_, _, e := log.Add(api.Edit{Tag: x.Tag, Op: x.Op})
		return e
	}
	if x.Epoch != log.Epoch()+1 {
		return api.ErrItem
	}
	_, e := log.Boot()
	return e
}
