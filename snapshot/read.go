package snapshot

import (
	"errors"

	"jotter/api"
	"jotter/doc"
	"jotter/octet"
)

// Read reads the bytes of a state.
func Read(b []byte) (*Snap, error) {
	if len(b) > api.MaxSnap {
		return nil, api.Wrap(api.MaxSnap, api.ErrSnapForm)
	}
	body, err := octet.Open(b)
	switch {
	case errors.Is(err, api.ErrShort):
		return nil, api.Wrap(api.Place(err), api.ErrSnapForm)
	case err != nil:
		return nil, api.Wrap(api.Place(err), api.ErrSnapSum)
	}
	s := &Snap{}
	if err := s.fill(octet.NewReader(body)); err != nil {
		return nil, err
	}
	return s, nil
}

// fill reads all that stands ahead of the sum into an empty state.
func (s *Snap) fill(r *octet.Reader) error {
	if string(r.Take(len(heading))) != heading {
		return api.Wrap(0, api.ErrSnapForm)
	}
	at := r.At()
	revs := r.U16()
	if err := verdict(r, at, revs <= api.MaxLog); err != nil {
		return err
	}
	if err := s.fillRecords(r, revs); err != nil {
		return err
	}
	if err := s.fillSides(r); err != nil {
		return err
	}
	if r.Left() > 0 {
		return api.Wrap(r.At(), api.ErrSnapForm)
	}
	return nil
}

// fillRecords reads so many records, and counts each client's.
func (s *Snap) fillRecords(r *octet.Reader, revs int) (err error) {
	size := 0
	s.records, err = getAll(revs, func(int) (api.Op, error) {
		at := r.At()
		op := api.Op{Kind: r.U8(), Pos: r.U16(), Ch: byte(r.U8()), Client: r.U8(), Seq: r.U8()}
		if err := verdict(r, at, doc.Fits(size, op) == api.OK && op.Seq == s.sides[op.Client].seq+1); err != nil {
			return op, err
		}
		size += growth(op)
		s.sides[op.Client].seq++
		return op, nil
	})
	return err
}

// fillSides reads what else a state has of each client with a record.
func (s *Snap) fillSides(r *octet.Reader) error {
	members := s.members()
	sides, err := getAll(len(members), func(i int) (side, error) { return s.readSide(r, members[i]) })
	for i, x := range sides {
		s.sides[members[i]] = x
	}
	return err
}

// readSide reads a client's tag and what waits for it.
func (s *Snap) readSide(r *octet.Reader, client int) (side, error) {
	at := r.At()
	x := side{seq: s.sides[client].seq, tag: r.U16(), upTo: s.Revs()}
	// A tag of its last record's Rev, or above, would be of an edit that had seen itself.
	if err := verdict(r, at, x.tag < s.lastRev(client)); err != nil {
		return x, err
	}
	others := s.others(client, x.tag)
	forms, err := getAll(len(others), func(i int) (api.Marked, error) { return readForm(r, others[i]) })
	if err != nil {
		return x, err
	}
	x.forms = forms
	return x, verdict(r, at, fit(s.room(forms), forms))
}

// readForm reads the form in which a record waits.
func readForm(r *octet.Reader, record api.Marked) (api.Marked, error) {
	at := r.At()
	kind, pos := r.U8(), r.U16()
	form := record
	form.Op.Kind, form.Op.Pos = kind, pos
	if kind == api.Nop {
		form.Op.Ch = 0
	}
	return form, verdict(r, at, (kind == record.Op.Kind || kind == api.Nop) && doc.Valid(form.Op) == api.OK)
}

// lastRev gives the Rev of a client's last record (0: none).
func (s *Snap) lastRev(client int) int {
	rev := s.Revs()
	for rev > 0 && s.records[rev-1].Client != client {
		rev--
	}
	return rev
}

// fit tells whether forms can be applied, one behind the other, to a text of n characters. That some text has n characters, doc.Fits of the first of them tells too; where none waits, n is the length of the state's own text.
func fit(n int, forms []api.Marked) bool {
	for _, m := range forms {
		if doc.Fits(n, m.Op) != api.OK {
			return false
		}
		n += growth(m.Op)
	}
	return true
}

// getAll gets so many things, one behind the other, up to the first that is wrong.
func getAll[T any](count int, one func(i int) (T, error)) ([]T, error) {
	var list []T
	for i := range count {
		x, err := one(i)
		if err != nil {
			return nil, err
		}
		list = append(list, x)
	}
	return list, nil
}

// verdict tells what is wrong with a thing that began at that place: it is not there whole, or no log can come to it.
func verdict(r *octet.Reader, at int, holds bool) error {
	switch {
	case r.Err() != nil:
		return api.Wrap(at, api.ErrSnapForm)
	case !holds:
		return api.Wrap(at, api.ErrSnapRule)
	}
	return nil
}
