package room

import (
	"strconv"
	"strings"

	"jotter/api"
	"jotter/doc"
	"jotter/history"
	"jotter/revision"
)

func (r *Room) show(s said) (string, api.Errno) {
	v, e := r.system.Site(s.numbers[0])
	return sentence("text", strconv.Itoa(r.deskOf(s).Caret()), doc.Text(v.Doc)), e
}

func (r *Room) pending(s said) (string, api.Errno) {
	v, e := r.system.Site(s.numbers[0])
	return sentence("pending", strconv.Itoa(len(v.Pending)), "made", strconv.Itoa(v.Made), "have", strconv.Itoa(v.Have)), e
}

func (r *Room) left(s said) (string, api.Errno) {
	d := r.deskOf(s)
	undo, redo := d.Depth()
	return sentence("left", strconv.Itoa(d.Left()), "undo", strconv.Itoa(undo), "redo", strconv.Itoa(redo)), api.OK
}

func (r *Room) told(said) (string, api.Errno) {
	v, e := r.server()
	return sentence("told", strconv.Itoa(v.Synced), doc.Text(v.Told)), e
}

func (r *Room) past(s said) (string, api.Errno) {
	text, e := r.allPast().Text(s.numbers[0])
	return sentence("past", strconv.Itoa(s.numbers[0]), text), e
}

func (r *Room) blame(s said) (string, api.Errno) {
	runs, e := r.allPast().Blame(s.numbers[0])
	words := []string{"blame"}
	for _, run := range runs {
		words = append(words, strconv.Itoa(run.Client)+":"+strconv.Itoa(run.From)+"-"+strconv.Itoa(run.To))
	}
	return sentence(words...), e
}

func (r *Room) born(s said) (string, api.Errno) {
	rev, e := r.allPast().Born(s.numbers[0], s.numbers[1])
	return sentence("born", strconv.Itoa(rev)), e
}

func (r *Room) died(s said) (string, api.Errno) {
	rev, e := r.allPast().Died(s.numbers[0])
	return sentence("died", strconv.Itoa(rev)), e
}

func (r *Room) tally(s said) (string, api.Errno) {
	put, took, stand, e := r.allPast().Tally(s.numbers[0], s.numbers[1])
	return sentence("tally", strconv.Itoa(put), strconv.Itoa(took), strconv.Itoa(stand)), e
}

func (r *Room) judge(said) (string, api.Errno) {
	all := r.system.Report()
	v, err := history.Judge(api.History{Clients: all.Clients, Log: all.Log, Events: all.Events})
	if err != nil {
		return "", api.Code(err)
	}
	if v.Rule == 0 {
		return "holds", api.OK
	}
	return sentence("broken", strconv.Itoa(v.Rule), strconv.Itoa(v.Event), strconv.Itoa(v.Other)), api.OK
}

// allPast gives the past that lies on the disk now, synced or not. Why its bytes end where they do is nobody's question here; more of them than can be read no disk has.
func (r *Room) allPast() *revision.Past {
	p, _ := revision.Open(r.Disk())
	return p
}

// done tells how many of something a line came to.
func done(count int) string { return sentence("ok", strconv.Itoa(count)) }

// refusal tells an error.
func refusal(e api.Errno) string { return sentence("error", strconv.Itoa(int(e))) }

func sentence(words ...string) string { return strings.Join(words, " ") }
