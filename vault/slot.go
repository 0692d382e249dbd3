package vault

import (
	"math"

	"jotter/api"
	"jotter/disk"
	"jotter/octet"
	"jotter/snapshot"
)

const (
	stateHead  = 6 // bytes of a state ahead of its records (layer 21)
	recordHead = 4 // bytes of a record ahead of its client
)

// slot is what a slot holds. The point of one that is not good is zero, as no epoch of a good one is.
type slot struct {
	point
	state *snapshot.Snap
}

// maker tells who made a record, and as which of its edits.
type maker struct{ client, seq int }

// slotBytes gives what a slot of a state holds. The length stands there twice, so that no beginning of the bytes passes for all of them.
func slotBytes(s *snapshot.Snap, epoch int) []byte {
	state := s.Bytes()
	size := uint64(len(state) + 1)
	head := octet.Put32(octet.Put32(nil, size), math.MaxUint32-size)
	return octet.Seal(append(octet.Put8(head, uint64(epoch)), state...))
}

// readSlot reads what a slot holds, or tells why that is bad (OK too, if it is empty).
func readSlot(b []byte) (slot, api.Errno) {
	none, _ := snapshot.Of(nil)
	if len(b) == 0 {
		return slot{state: none}, api.OK
	}
	kept, why := openSlot(b)
	if why != api.OK {
		return slot{state: none}, why
	}
	return kept, api.OK
}

// openSlot reads a good slot's bytes, or tells why they are none.
func openSlot(b []byte) (slot, api.Errno) {
	body, err := octet.Open(b)
	if err != nil {
		return slot{}, api.Code(err)
	}
	r := octet.NewReader(body)
	size, turned := r.U32(), r.U32()
	if r.Err() != nil || r.Left() == 0 || int64(size) != int64(r.Left()) || turned != math.MaxUint32-size {
		return slot{}, api.ErrSnapForm
	}
	epoch := r.U8()
	if epoch == 0 {
		return slot{}, api.ErrSnapRule
	}
	s, err := snapshot.Read(r.Take(r.Left()))
	if err != nil {
		return slot{}, api.Code(err)
	}
	return slot{point{s.Revs(), epoch}, s}, api.OK
}

// openSlots begins with the state of the newest good slot; the error tells of the first bad one.
func (v *Vault) openSlots(one *disk.Disk, two *disk.Disk) error {
	one.Sync()
	two.Sync()
	first, whyFirst := readSlot(one.Bytes())
	second, whySecond := readSlot(two.Bytes())
	if first.epoch > 0 && !second.isAfter(first.point) {
		v.state, v.base = first.state, first.point
		v.slots = [2]*disk.Disk{two, one}
	} else {
		v.state, v.base = second.state, second.point
		v.slots = [2]*disk.Disk{one, two}
	}
	switch {
	case whyFirst != api.OK:
		return api.Wrap(1, whyFirst)
	case whySecond != api.OK:
		return api.Wrap(2, whySecond)
	}
	return nil
}

// isAfter tells whether a point has more records than another, or as many and the greater epoch.
func (p point) isAfter(q point) bool {
	return p.revs > q.revs || p.revs == q.revs && p.epoch > q.epoch
}

// fill lays a slot's bytes into the older slot, which is the newest from then on.
func (v *Vault) fill(image []byte) {
	older := v.slots[0]
	older.Cut(0)
	older.Append(image)
	older.Sync()
	v.slots[0], v.slots[1] = v.slots[1], older
	v.base = v.end()
}

// makers tells who made the records of a state, which has them in its bytes alone.
func makers(s *snapshot.Snap) []maker {
	r := octet.NewReader(s.Bytes())
	r.Take(stateHead)
	list := make([]maker, s.Revs())
	for i := range list {
		r.Take(recordHead)
		list[i] = maker{r.U8(), r.U8()}
	}
	return list
}
