package shelf

import (
	"strconv"

	"jotter/api"
	"jotter/book"
	"jotter/branch"
	"jotter/disk"
	"jotter/doc"
	"jotter/notes"
	"jotter/revision"
	"jotter/room"
	"jotter/search"
	"jotter/snapshot"
)

// named is a text that has a name, with all that hangs on it.
type named struct {
	*room.Room
	clients int
	board   *notes.Board
	saved   *snapshot.Snap // nil: nothing was saved
}

func (t *named) in(a said) (string, api.Errno) { return t.Say(a.rest), api.OK }

func (t *named) note(a said) (string, api.Errno) {
	page, e := t.clientPage(a.numbers[0])
	if e != api.OK {
		return "", e
	}
	id, e := t.board.Put(page, a.numbers[1], a.numbers[2], a.numbers[0], a.rest)
	return count("note", id), e
}

func (t *named) reply(a said) (string, api.Errno) {
	if _, e := t.clientPage(a.numbers[0]); e != api.OK {
		return "", e
	}
	return done, t.board.Reply(a.numbers[1], a.numbers[0], a.rest)
}

func (t *named) shut(a said) (string, api.Errno) { return done, t.board.Shut(a.numbers[0]) }

func (t *named) look(page []api.Elem, a said) (string, api.Errno) {
	n, e := t.board.Look(page, a.numbers[1])
	return sentence("note", strconv.Itoa(n.ID), "by", strconv.Itoa(n.Client), where(n), state(n), strconv.Itoa(len(n.Replies)), n.Words), e
}

func where(n api.Note) string {
	if n.Gone {
		return "gone"
	}
	return strconv.Itoa(n.From) + "-" + strconv.Itoa(n.To)
}

func state(n api.Note) string {
	if n.Shut {
		return "shut"
	}
	return "open"
}

func (t *named) notes(page []api.Elem, _ said) (string, api.Errno) {
	all := t.board.All(page)
	open, gone := 0, 0
	for _, n := range all {
		if !n.Shut {
			open++
		}
		if n.Gone {
			gone++
		}
	}
	return sentence(count("notes", len(all)), count("open", open), count("gone", gone)), api.OK
}

func (t *named) at(page []api.Elem, a said) (string, api.Errno) {
	return counts("at", t.board.At(page, a.numbers[1])), api.OK
}

func (t *named) sweep(page []api.Elem, _ said) (string, api.Errno) {
	return count(done, t.board.Sweep(page)), api.OK
}

func (t *named) find(page []api.Elem, a said) (string, api.Errno) {
	places, e := search.New(page).Find(a.rest)
	return counts("places", places), e
}

// swap lets the client's desk put in what the operations come to: so they are its edits, as few as can be, and can be taken back.
func (t *named) swap(a said) (string, api.Errno) {
	client, k := a.numbers[0], a.numbers[1]
	if k > len(a.rest) {
		return "", api.ErrShelf
	}
	page, e := t.clientPage(client)
	if e != api.OK {
		return "", e
	}
	x := search.New(page)
	ops, e := x.Swap(a.rest[:k], a.rest[k:], client, 1)
	if e != api.OK {
		return "", e
	}
	for _, op := range ops {
		x.Apply(op)
	}
	return t.Say(sentence("replace", strconv.Itoa(client), x.Text())), api.OK
}

func (t *named) words(page []api.Elem, _ said) (string, api.Errno) {
	words, often := search.New(page).Words()
	told := []string{"words"}
	for i, word := range words {
		told = append(told, word+":"+strconv.Itoa(often[i]))
	}
	return sentence(told...), api.OK
}

func (t *named) merge(a said) (string, api.Errno) {
	merged, e := branch.Merge(t.past(), a.numbers[0], a.rest)
	return sentence("merged", merged), e
}

func (t *named) lost(a said) (string, api.Errno) {
	n, e := branch.Lost(t.past(), a.numbers[0], a.rest)
	return count("lost", n), e
}

func (t *named) save(said) (string, api.Errno) {
	// What a book holds can all stand.
	t.saved, _ = snapshot.Of(t.edits())
	return count("saved", t.saved.Revs()), api.OK
}

// resume tells what the saved state has come to, and leaves it saved as it was.
func (t *named) resume(said) (string, api.Errno) {
	if t.saved == nil {
		return "", api.ErrEmpty
	}
	edits := t.edits()
	_, now, err := t.saved.Resume(edits[min(t.saved.Revs(), len(edits)):])
	if err != nil {
		return "", api.Code(err)
	}
	return sentence("resumed", strconv.Itoa(now.Revs()), doc.Text(now.Doc())), api.OK
}

// clientPage gives a client's text: the server is none.
func (t *named) clientPage(site int) ([]api.Elem, api.Errno) {
	if site == 0 {
		return nil, api.ErrSite
	}
	return t.Doc(site)
}

// past gives the past that lies on the room's disk now, synced or not. Why its bytes end where they do is nobody's question here; more of them than can be read no disk has.
func (t *named) past() *revision.Past {
	p, _ := revision.Open(t.Disk())
	return p
}

// edits gives what a server that started now would find on the room's disk. It is looked for on a copy, as a book cuts its disk.
func (t *named) edits() []api.Edit {
	d, _ := disk.From(t.Disk())
	b, _ := book.Open(d)
	return b.Edits()
}
