package room

import (
	"math"

	"jotter/api"
	"jotter/system"
)

// hand is one client of a system, as its desk works on it: each edit is a step of the system, so that the users of the run are seen to have made it.
type hand struct {
	system *system.System
	site   int
}

func (h hand) Insert(pos int, ch int) (api.Edit, api.Errno) {
	if ch < 0 || ch > math.MaxUint8 {
		return api.Edit{}, api.ErrCh
	}
	return h.play(api.Entry{Kind: api.EInsert, Site: h.site, A: pos, Ch: byte(ch)})
}

func (h hand) Delete(pos int) (api.Edit, api.Errno) {
	return h.play(api.Entry{Kind: api.EDelete, Site: h.site, A: pos})
}

func (h hand) Doc() []api.Elem { return h.view().Doc }

// play makes an edit, and gives it: no record can have told back what was made just now, so it is the last that is pending.
func (h hand) play(e api.Entry) (api.Edit, api.Errno) {
	if step := h.system.Do(e); step.Err != api.OK {
		return api.Edit{}, step.Err
	}
	pending := h.view().Pending
	return pending[len(pending)-1], api.OK
}

func (h hand) view() api.ClientView {
	v, _ := h.system.Site(h.site)
	return v
}
