package wire

import (
	"jotter/api"
	"jotter/octet"
)

// writer gathers bytes, as octet's Reader gives them back.
type writer struct{ bytes []byte }

func (w *writer) put8(n int) { w.bytes = octet.Put8(w.bytes, uint64(n)) }

func (w *writer) put16(n int) { w.bytes = octet.Put16(w.bytes, uint64(n)) }

// putter gives the writer's method for the width of field f.
func putter(w *writer, f int) func(int) {
	if wide.has(f) {
		return w.put16
	}
	return w.put8
}

// getter gives the reader's method for the width of field f.
func getter(r *octet.Reader, f int) func() int {
	if wide.has(f) {
		return r.U16
	}
	return r.U8
}

// write gives the bytes of values. All are the fields that there are beside the kind: one that the layout does not name must be 0, and an error's place is a field's number among them.
func write(v values, all set, layoutOf func(kind int) layout) ([]byte, error) {
	l := layoutOf(v[kind])
	if l.named == 0 {
		return nil, api.Wrap(0, api.ErrMsgKind)
	}
	w := &writer{}
	w.put8(v[kind])
	number := 0
	for f := range fields {
		if !all.has(f) {
			continue
		}
		number++
		if !l.allows(v, f) {
			return nil, api.Wrap(number, api.ErrField)
		}
		if l.named.has(f) {
			putter(w, f)(v[f])
		}
	}
	return w.bytes, nil
}

// read gives the values that bytes hold. An error's place is a place in the bytes.
func read(b []byte, layoutOf func(kind int) layout) (values, error) {
	if len(b) == 0 {
		return values{}, api.Wrap(0, api.ErrLength)
	}
	r := octet.NewReader(b)
	v := values{kind: r.U8()}
	l := layoutOf(v[kind])
	if l.named == 0 {
		return values{}, api.Wrap(0, api.ErrMsgKind)
	}
	if len(b) != l.size() {
		return values{}, api.Wrap(len(b), api.ErrLength)
	}
	for f := range fields {
		if !l.named.has(f) {
			continue
		}
		at := r.At()
		v[f] = getter(r, f)()
		if !l.allows(v, f) {
			return values{}, api.Wrap(at, api.ErrField)
		}
	}
	return v, nil
}
