package vault

import (
	"jotter/api"
	"jotter/disk"
	"jotter/octet"
	"jotter/wal"
	"jotter/wire"
)

// markKind is the first byte of a mark: wire has no item of that kind.
const markKind = 3

// point is how far all items up to some place have come.
type point struct{ revs, epoch int }

// markBytes gives the item that says where a log begins.
func markBytes(p point) []byte {
	kind := octet.Put8(nil, markKind)
	return octet.Put8(octet.Put16(kind, uint64(p.revs)), uint64(p.epoch))
}

// readMark tells what a mark says, if the item is one.
func readMark(payload []byte) (point, bool) {
	r := octet.NewReader(payload)
	kind := r.U8()
	p := point{r.U16(), r.U8()}
	if kind != markKind || r.Err() != nil || r.Left() > 0 || p.revs > api.MaxLog || p.epoch == 0 {
		return point{}, false
	}
	return p, true
}

// openLog finds the log's items, and where it begins; the error tells why it was cut.
func (v *Vault) openLog(d *disk.Disk) error {
	log, err := wal.Open(d)
	v.Log = log
	first, _ := v.Get(0)
	begin, marked := readMark(first)
	v.points = []point{begin}
	if marked {
		v.goOn(begin)
	}
	return err
}

// end tells where the log leads, as far as it was gone through.
func (v *Vault) end() point { return v.points[len(v.points)-1] }

// goOn notes where the log's next item leads.
func (v *Vault) goOn(p point) { v.points = append(v.points, p) }

// lay puts an item behind the log's last one.
func (v *Vault) lay(x api.Item) api.Errno {
	payload, err := wire.EncodeItem(x)
	if err != nil {
		return api.Code(err)
	}
	return api.Code(v.Append(payload))
}

// replay goes through the items, and cuts the log ahead of the first that cannot stand, which it gives the reason of.
func (v *Vault) replay() api.Errno {
	kept := makers(v.state)
	for i := len(v.points) - 1; i < v.Count(); i++ {
		payload, _ := v.Get(i)
		if why := v.pass(payload, kept); why != api.OK {
			v.Trim(i)
			return why
		}
	}
	return api.OK
}

// pass goes past one item, or tells why it cannot stand.
func (v *Vault) pass(payload []byte, kept []maker) api.Errno {
	x, err := wire.DecodeItem(payload)
	switch {
	case err != nil:
		return api.Code(err)
	case x.Kind == api.LBoot:
		return v.passBoot(x.Epoch)
	}
	return v.passEdit(api.Edit{Tag: x.Tag, Op: x.Op}, kept)
}

func (v *Vault) passBoot(epoch int) api.Errno {
	at := v.end()
	if epoch != at.epoch+1 || epoch > v.base.epoch && at.revs < v.base.revs {
		return api.ErrItem
	}
	v.goOn(point{at.revs, epoch})
	return api.OK
}

// passEdit takes an edit into the state, unless that has it from the slot.
func (v *Vault) passEdit(e api.Edit, kept []maker) api.Errno {
	at := v.end()
	switch {
	case at.epoch == 0:
		return api.ErrUnborn
	case at.revs < v.base.revs:
		if kept[at.revs] != (maker{e.Op.Client, e.Op.Seq}) {
			return api.ErrItem
		}
	case at.epoch < v.base.epoch:
		return api.ErrItem
	default:
		_, next, err := v.state.Resume([]api.Edit{e})
		if err != nil {
			return api.Code(err)
		}
		v.state = next
	}
	v.goOn(point{at.revs + 1, at.epoch})
	return api.OK
}

// putRight brings a checkpoint to its end, whether it was just begun or was broken off by a crash: a log that leads no farther than the newest slot has nothing more to tell.
func (v *Vault) putRight() {
	end := v.end()
	if end.revs < v.base.revs || end.epoch < v.base.epoch || end == v.base && v.points[0] != v.base {
		v.beginAnew()
	}
}

// beginAnew leaves nothing in the log but where it begins.
func (v *Vault) beginAnew() {
	v.Trim(0)
	v.Append(markBytes(v.base))
	v.Log.Sync()
	v.points = []point{v.base, v.base}
}
