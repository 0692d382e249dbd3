package revision_test

import (
	"bytes"
	"errors"
	"math/rand/v2"
	"slices"
	"testing"

	"jotter/api"
	"jotter/book"
	"jotter/disk"
	"jotter/revision"
)

// seen is all that a past tells of some of its revisions.
type seen struct {
	texts   []string
	runs    [][]api.Run
	ops     []api.Op
	numbers []int
}

func see(p *revision.Past) seen {
	s := seen{numbers: []int{p.Revs()}}
	for _, rev := range upTo(p.Revs(), 20) {
		text, _ := p.Text(rev)
		runs, _ := p.Blame(rev)
		there, _ := p.Changes(rev, p.Revs())
		back, _ := p.Changes(p.Revs(), rev)
		s.texts, s.runs, s.ops = append(s.texts, text), append(s.runs, runs), slices.Concat(s.ops, there, back)
		born, _ := p.Born(rev, len(text)/2)
		died, _ := p.Died(rev)
		put, took, stand, _ := p.Tally(1+rev%3, rev)
		s.numbers = append(s.numbers, born, died, put, took, stand)
	}
	return s
}

func (s seen) same(other seen) bool {
	return slices.Equal(s.texts, other.texts) && slices.Equal(s.ops, other.ops) && slices.Equal(s.numbers, other.numbers) && slices.EqualFunc(s.runs, other.runs, slices.Equal)
}

// wantOpened ends the test unless a past of these bytes is that of the first revs records of a log, and the error is that one and the book's own.
func wantOpened(t *testing.T, what string, image []byte, edits []api.Edit, want error) {
	t.Helper()
	p, err := revision.Open(image)
	wantError(t, what, err, want)
	_, told := bookOf(t, image)
	wantError(t, what+": the book's error", err, told)
	if p == nil || p.Revs() != len(edits) {
		t.Fatalf("P18.1: %s: Open gives %v, want %d records", what, p, len(edits))
	}
	if !see(p).same(see(opened(t, logOf(edits...)))) {
		t.Fatalf("P18.1: %s: the past is not that of %v", what, edits)
	}
}

// The chapter's example 7.
func TestExampleTorn(t *testing.T) {
	image := logOf(exampleEdits()...)
	wantOpened(t, "three bytes more", append(image, 1, 2, 3), exampleEdits(), api.Wrap(len(image), api.ErrTorn))
	wantOpened(t, "no bytes", nil, nil, nil)
}

// TestCutAnywhere: bytes that end within a record give the past up to there.
func TestCutAnywhere(t *testing.T) {
	image := logOf(exampleEdits()...)
	for n := range len(image) + 1 {
		items := 0
		good := 0
		if n >= 10 {
			items, good = (n-10)/17, 10+(n-10)/17*17
		}
		var want error
		if good < n {
			want = api.Wrap(good, api.ErrTorn)
		}
		wantOpened(t, "the first bytes", image[:n], exampleEdits()[:items], want)
	}
}

// TestChangedAnywhere: bytes one of which is not as it was give the past ahead of its record.
func TestChangedAnywhere(t *testing.T) {
	image := logOf(exampleEdits()...)
	for at := range image {
		for _, mask := range []byte{1, 4, 128, 255} {
			spoilt := bytes.Clone(image)
			spoilt[at] ^= mask
			good, records, within := 0, 0, at
			if at >= 10 {
				good, records, within = 10+(at-10)/17*17, (at-10)/17, (at-10)%17
			}
			want := api.Wrap(good, api.ErrRecord)
			if within < 4 {
				want = api.Wrap(good, api.ErrHead)
			}
			wantOpened(t, "a byte changed", spoilt, exampleEdits()[:records], want)
		}
	}
}

// TestItemsThatCannotStand: records that are whole, and hold what no book takes.
func TestItemsThatCannotStand(t *testing.T) {
	boot, first := bootOf(1), editOf(exampleEdits()[0])
	for _, c := range []struct {
		what    string
		item    []byte
		ahead   [][]byte
		records int
		reason  error
	}{
		{"an edit ahead of any boot", first, nil, 0, api.ErrUnborn},
		{"a second boot of epoch 1", boot, [][]byte{boot}, 0, api.ErrItem},
		{"a boot of epoch 3", bootOf(3), [][]byte{boot, first}, 1, api.ErrItem},
		{"no kind", []byte{7}, nil, 0, &api.Fault{At: 0, Err: api.ErrMsgKind}},
		{"no length", []byte{2, 0}, [][]byte{boot, first}, 1, &api.Fault{At: 2, Err: api.ErrLength}},
		{"no epoch", []byte{1, 0}, nil, 0, &api.Fault{At: 1, Err: api.ErrField}},
		{"a Nop", editOf(edit(1, nop(1, 2))), [][]byte{boot, first}, 1, api.ErrNoEdit},
		{"an edit for the second time", first, [][]byte{boot, first}, 1, api.ErrDone},
		{"an edit out of turn", editOf(edit(1, ins(0, 'a', 1, 3))), [][]byte{boot, first}, 1, api.ErrTurn},
		{"a tag of what is not there", editOf(edit(2, ins(0, 'a', 1, 2))), [][]byte{boot, first}, 1, api.ErrTag},
		{"a place beyond the text", editOf(edit(1, ins(2, 'a', 1, 2))), [][]byte{boot, first}, 1, api.ErrPlace},
		{"a deletion of nothing", editOf(edit(1, del(1, 2, 1))), [][]byte{boot, first}, 1, api.ErrPlace},
	} {
		good := imageOf(c.ahead...)
		bad := imageOf(append(c.ahead, c.item)...)
		want := &api.Fault{At: len(good), Err: c.reason}
		for _, tail := range [][]byte{nil, {1, 2, 3}, make([]byte, 40), imageOf(editOf(edit(1, ins(0, 'b', 1, 2)))), imageOf([]byte{9}, boot)} {
			wantOpened(t, c.what, append(bad, tail...), exampleEdits()[:c.records], want)
			if _, err := revision.Open(append(bad, tail...)); api.Place(err) != len(good) || !errors.Is(err, api.Code(c.reason)) {
				t.Fatalf("P18.1: %s: the error %v, want %v", c.what, err, want)
			}
		}
	}
}

// TestMostBytes: as many bytes as a disk has are read, one more is refused whole, be it a log or not.
func TestMostBytes(t *testing.T) {
	image := logOf(exampleEdits()...)
	full := append(image, make([]byte, api.MaxDisk-len(image))...)
	wantOpened(t, "as many as a disk has", full, exampleEdits(), api.Wrap(len(image), api.ErrHead))
	wantOpened(t, "as many as a disk has, all 0", make([]byte, api.MaxDisk), nil, api.Wrap(0, api.ErrHead))
	for _, b := range [][]byte{append(full, 0), make([]byte, api.MaxDisk+1), make([]byte, 1<<26)} {
		p, err := revision.Open(b)
		if p != nil {
			t.Fatalf("P18.1: %d bytes: Open gives a past", len(b))
		}
		wantError(t, "more than a disk has", err, api.Wrap(0, api.ErrDiskFull))
	}
}

// TestCrashedDisks: what a crash leaves of a disk is read up to what it spoilt.
func TestCrashedDisks(t *testing.T) {
	r := dice(8)
	for range 150 {
		d := disk.New()
		b, _ := book.Open(d)
		b.Boot()
		for n := range 1 + r.IntN(12) {
			client := 1 + r.IntN(3)
			seq, _ := b.Last(client)
			b.Add(edit(n, ins(r.IntN(n+1), byte('a'+n), client, seq+1)))
			if r.IntN(5) == 0 {
				b.Sync()
			}
		}
		edits, synced, tail := b.Edits(), b.Synced(), d.Size()-d.Synced()
		keep := r.IntN(tail + 1)
		mask := 0
		if keep > 0 {
			mask = r.IntN(256)
		}
		if e := d.Crash(keep, r.IntN(max(keep, 1)), mask); e != api.OK {
			t.Fatalf("disk.Crash: %d", e)
		}
		left, err := bookOf(t, d.Bytes())
		if left.Revs() < synced {
			t.Fatalf("the book has %d records, %d were synced", left.Revs(), synced)
		}
		wantOpened(t, "behind a crash", d.Bytes(), edits[:left.Revs()], err)
	}
}

// anyImage gives bytes that are nearly a log: whole records of mixed items, few of them wrong, some bytes of them changed, some cut off.
func anyImage(r *rand.Rand) []byte {
	payloads := [][]byte{bootOf(1)}
	var made [4]int
	for n := range r.IntN(30) {
		client := 1 + r.IntN(3)
		made[client]++
		e := edit(n-r.IntN(min(n, 2)+1), ins(r.IntN(n/2+1), byte(r.IntN(95)+32), client, made[client]))
		if n > 2 && r.IntN(4) == 0 {
			e.Op = del(r.IntN(n/2), client, made[client])
		}
		payloads = append(payloads, editOf(e))
	}
	image := imageOf(payloads...)
	if r.IntN(2) == 0 {
		image[r.IntN(len(image))] ^= byte(r.IntN(256))
	}
	return image[:len(image)-r.IntN(2)*r.IntN(10)]
}

// TestAnyBytes: whatever comes, the past is that of the records that the book finds, and the error the book's.
func TestAnyBytes(t *testing.T) {
	r := dice(9)
	records := 0
	for n := range 3000 {
		image := make([]byte, r.IntN(60))
		for i := range image {
			image[i] = byte(r.IntN(256))
		}
		if n%3 > 0 {
			image = anyImage(r)
		}
		b, err := bookOf(t, image)
		records += b.Revs()
		wantOpened(t, "any bytes", image, b.Edits(), err)
	}
	if records < 2000 {
		t.Fatalf("%d records: they tell too little", records)
	}
}

// TestBytesStay: they are not changed, nor what stands behind them, and what is written into them later is not seen.
func TestBytesStay(t *testing.T) {
	good := logOf(exampleEdits()...)
	for _, image := range [][]byte{good, append(good, 1, 2, 3), good[:50], append(imageOf(bootOf(1), bootOf(3)), good...)} {
		room := append(bytes.Clone(image), bytes.Repeat([]byte{9}, 100)...)
		kept := bytes.Clone(room)
		p, err := revision.Open(room[:len(image)])
		before := see(p)
		if !bytes.Equal(room, kept) {
			t.Fatalf("P18.1: Open changed its bytes: % x, were % x", room, kept)
		}
		place, code := api.Place(err), api.Code(err)
		for i := range room {
			room[i] ^= 255
		}
		if !see(p).same(before) || api.Place(err) != place || api.Code(err) != code {
			t.Fatalf("P18.1: what is written into the bytes is seen in their past")
		}
	}
}
