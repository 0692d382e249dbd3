package snapshot_test

import (
	"bytes"
	"math"
	"slices"
	"sync"
	"testing"

	"jotter/api"
	"jotter/book"
	"jotter/doc"
	"jotter/snapshot"
)

// greatest gives as many edits as there can be, the clients by turns: the k-th has the tag that tag tells, and inserts, or in the clients' last rounds deletes, where at tells.
func greatest(deletions int, tag, at func(k int) int) []api.Edit {
	var edits []api.Edit
	for k := range api.MaxLog {
		client, seq := k%api.MaxClients+1, k/api.MaxClients+1
		op := ins(at(k), byte(32+k%95), client, seq)
		if seq > api.MaxEdits-deletions {
			op = del(at(k), client, seq)
		}
		edits = append(edits, edit(tag(k), op))
	}
	return edits
}

// TestGreatestLogs: 64 clients of 64 edits each, that have seen everything, a round, or nothing of the others.
func TestGreatestLogs(t *testing.T) {
	zero, self := func(int) int { return 0 }, func(k int) int { return k }
	round := func(k int) int { return max(k-64, 0) }
	for _, c := range []struct {
		what      string
		deletions int
		tag, at   func(int) int
	}{
		{"all at the beginning, unseen", 0, zero, zero},
		{"all at the end, seen", 0, self, self},
		{"a round behind, half of them deletions", 32, round, zero},
	} {
		edits := greatest(c.deletions, c.tag, c.at)
		s := of(t, edits...)
		m, wrong := (&model{}).resume(t, edits)
		if wrong != nil {
			t.Fatalf("%s: the model refuses an edit: %v", c.what, wrong)
		}
		wantSame(t, c.what, s, m)
		done, text, _ := book.Replay(edits)
		if !slices.Equal(done, m.done) || !doc.Equal(text, s.Doc()) {
			t.Fatalf("P21.7: %s: not what book.Replay tells", c.what)
		}
		again := read(t, s.Bytes())
		wantSame(t, "P21.4: "+c.what, again, m)
		wantFull(t, again)
		got, last := resumed(t, read(t, of(t, edits[:2048]...).Bytes()), edits[2048:]...)
		if !slices.Equal(got, done[2048:]) || !bytes.Equal(last.Bytes(), s.Bytes()) {
			t.Fatalf("P21.7: %s: the second half comes to something else", c.what)
		}
	}
}

// wantFull ends the test unless a state with all records takes no edit more.
func wantFull(t *testing.T, s *snapshot.Snap) {
	t.Helper()
	for c := 1; c <= api.MaxClients; c++ {
		for seq, want := range map[int]api.Errno{1: api.ErrDone, 64: api.ErrDone, 65: api.ErrWho} {
			done, next, err := s.Resume([]api.Edit{edit(api.MaxLog, ins(0, 'x', c, seq))})
			wantError(t, "P21.6: beyond the last edit", err, api.Wrap(0, want))
			if len(done) != 0 || next.Revs() != api.MaxLog {
				t.Fatalf("P21.6: a record beyond the last: %s", opsWord(done))
			}
		}
	}
}

// TestGreatestPlaces: a text of 4096 characters, and forms at its last place.
func TestGreatestPlaces(t *testing.T) {
	self := func(k int) int { return k }
	edits := greatest(0, self, self)
	b := of(t, edits...).Bytes()
	s := read(t, b)
	if len(s.Doc()) != api.MaxDoc {
		t.Fatalf("P21.5: Doc has %d characters", len(s.Doc()))
	}
	w := s.Waiting(63)
	if want := []api.Marked{marked(4096, edits[4095].Op)}; !slices.Equal(w, want) {
		t.Fatalf("P21.5: Waiting(63) = %s, want %s", waitingWord(w), waitingWord(want))
	}
	// Behind it stand its tag and its form, client 64's tag and the sum.
	form := len(b) - 4 - 2 - 3
	wantRefused(t, "a form at 4096", turned(turned(b, form+1, 16), form+2, 0), form, api.ErrSnapRule)
	s, m := wantRead(t, turned(turned(b, form+1, 15), form+2, 254))
	if s == nil {
		t.Fatal("P21.3: a form at 4094 is refused")
	}
	wantSame(t, "a form at 4094", s, m)
	// With the last record missing there is room for it once more.
	ahead := read(t, of(t, edits[:4095]...).Bytes())
	for _, e := range []api.Edit{edit(4095, ins(4095, 'x', 64, 64)), edit(4095, del(4094, 64, 64)), edit(4095, ins(0, 'x', 64, 64))} {
		if done, _ := resumed(t, ahead, e); done[0] != e.Op {
			t.Fatalf("P21.6: Resume of %s = %s", editsWord([]api.Edit{e}), opsWord(done))
		}
	}
	_, _, err := ahead.Resume([]api.Edit{edit(4095, del(4095, 64, 64))})
	wantError(t, "P21.6: a Delete behind 4095 characters", err, api.Wrap(0, api.ErrPlace))
}

// TestMostBytes: as many bytes as a snapshot may have are looked at, one more is refused ahead of all else.
func TestMostBytes(t *testing.T) {
	full := func(front []byte, size int) []byte {
		return sealed(append(slices.Clip(front), make([]byte, size-4-len(front))...))
	}
	body := one()[:14]
	wantRefused(t, "4194304 bytes behind a state", full(body, api.MaxSnap), 14, api.ErrSnapForm)
	wantRefused(t, "4194304 bytes", full(nil, api.MaxSnap), 0, api.ErrSnapForm)
	spoilt := full(body, api.MaxSnap)
	spoilt[100]++
	wantRefused(t, "4194304 bytes without a sum", spoilt, api.MaxSnap-4, api.ErrSnapSum)
	for _, size := range []int{api.MaxSnap + 1, api.MaxSnap + 2, 1 << 24} {
		wantRefused(t, "more bytes than may be", full(body, size), api.MaxSnap, api.ErrSnapForm)
		wantRefused(t, "more bytes than may be, no sum", make([]byte, size), api.MaxSnap, api.ErrSnapForm)
	}
}

// TestNoClients: what is told of numbers that are no client's, up to the ends of int.
func TestNoClients(t *testing.T) {
	for _, s := range []*snapshot.Snap{of(t), of(t, five()...), read(t, two())} {
		for _, c := range []int{0, -1, -64, 65, 66, 128, 1 << 32, math.MaxInt, math.MinInt, math.MinInt + 1} {
			if seq, tag := s.Last(c); seq != 0 || tag != 0 {
				t.Fatalf("P21.5: Last(%d) = %d, %d", c, seq, tag)
			}
			if w := s.Waiting(c); len(w) != 0 {
				t.Fatalf("P21.5: Waiting(%d) = %s", c, waitingWord(w))
			}
		}
	}
}

// TestArgumentsStay: what is handed in is neither changed nor kept, its spare room neither.
func TestArgumentsStay(t *testing.T) {
	room := append(five(), edit(7, nop(7, 7)), edit(7, nop(7, 7)))
	kept := slices.Clone(room)
	s, _ := snapshot.Of(room[:2])
	_, next, _ := s.Resume(room[2:5])
	_, _, _ = s.Resume(room[:3]) // refused at once
	if !slices.Equal(room, kept) {
		t.Fatalf("P21.9: the edits are changed: %s", editsWord(room))
	}
	clear(room)
	wantTold(t, "P21.9: the edits written over: Of", s, exampleStates()[2])
	wantTold(t, "P21.9: the edits written over: Resume", next, exampleStates()[5])
	b := append(two(), 1, 2, 3)
	was := bytes.Clone(b)
	s = read(t, b[:len(b)-3])
	if !bytes.Equal(b, was) {
		t.Fatalf("P21.9: the bytes are changed: % X", b)
	}
	clear(b)
	wantTold(t, "P21.9: the bytes written over", s, exampleStates()[2])
}

// scribble writes over a list and its spare room.
func scribble[T any](list []T, with T) {
	list = list[:cap(list)]
	for i := range list {
		list[i] = with
	}
}

// TestAnswersAreNew: what is written into a list, or behind it, is seen in no other answer.
func TestAnswersAreNew(t *testing.T) {
	first := of(t, pair()...)
	done, last := resumed(t, first, five()[2:]...)
	states := map[int][]*snapshot.Snap{2: {first, read(t, two())}, 5: {last, of(t, five()...), read(t, last.Bytes())}}
	scribble(done, nop(9, 9))
	for n, list := range states {
		for _, s := range list {
			for c := range 66 {
				other := s.Waiting(c)
				want := slices.Clone(other)
				scribble(s.Waiting(c), marked(99, nop(9, 9)))
				if !slices.Equal(other, want) {
					t.Fatalf("P21.9: Waiting(%d) twice shares memory", c)
				}
			}
			scribble(s.Bytes(), 99)
			scribble(s.Doc(), api.Elem{})
			again, _, _ := s.Resume(five()[n:])
			scribble(again, nop(9, 9))
			wantTold(t, "P21.9: answers written over", s, exampleStates()[n])
		}
	}
	for _, list := range states {
		for _, s := range list {
			_, next, _ := s.Resume(five()[s.Revs():])
			wantTold(t, "P21.9: answers written over, gone on", next, exampleStates()[5])
		}
	}
}

// TestStatesStay: many states that come from one another in a tree, none of which changes when others go on.
func TestStatesStay(t *testing.T) {
	r := dice(7)
	states, models := []*snapshot.Snap{of(t)}, []*model{{}}
	for len(states) < 400 {
		k := r.IntN(len(states))
		if r.IntN(2) == 0 {
			k = len(states) - 1 - r.IntN(min(len(states), 4))
		}
		s, m := goOn(t, states[k], models[k], models[k].someEdits(t, r, 4)...)
		if r.IntN(8) == 0 {
			s = read(t, s.Bytes())
		}
		states, models = append(states, s), append(models, m)
	}
	for i, s := range states {
		wantSame(t, "P21.6: a state that others come from", s, models[i])
	}
}

// TestRefusedChangesNothing: Resume and Read that are refused leave all states as they are.
func TestRefusedChangesNothing(t *testing.T) {
	s := of(t, five()...)
	for _, e := range []api.Edit{{}, edit(5, nop(3, 1)), edit(5, ins(9, 'x', 3, 1)), edit(9, ins(0, 'x', 3, 1)), edit(5, ins(0, 'x', 1, 1)), edit(5, ins(0, 'x', 1, 9))} {
		_, next, err := s.Resume([]api.Edit{e})
		if err == nil || next == nil {
			t.Fatalf("P21.6: Resume of %s: %v", editsWord([]api.Edit{e}), err)
		}
		wantTold(t, "P21.6: a refused edit", s, exampleStates()[5])
		wantTold(t, "P21.6: the state of a refused edit", next, exampleStates()[5])
	}
	for _, none := range [][]api.Edit{nil, {}} {
		done, next, err := s.Resume(none)
		if len(done) != 0 || err != nil || next == nil {
			t.Fatalf("P21.6: Resume of no edit: %s, %v", opsWord(done), err)
		}
		wantTold(t, "P21.6: no edit", next, exampleStates()[5])
	}
}

// TestSideBySide: a state can be asked by many at one time, because it never changes.
func TestSideBySide(t *testing.T) {
	edits := mixed(t, dice(8), 4, 60)
	s := of(t, edits[:40]...)
	want, _ := (&model{}).resume(t, edits)
	wants := want.bytes()
	same := make([]bool, 16)
	var wg sync.WaitGroup
	for i := range same {
		wg.Go(func() {
			same[i] = true
			for range 10 {
				again, err := snapshot.Read(s.Bytes())
				if again == nil || err != nil {
					same[i] = false
					return
				}
				_, a, _ := s.Resume(edits[40:])
				_, b, _ := again.Resume(edits[40:])
				c, _ := snapshot.Of(edits)
				same[i] = same[i] && bytes.Equal(a.Bytes(), wants) && bytes.Equal(b.Bytes(), wants) && bytes.Equal(c.Bytes(), wants) && s.Revs() == 40
			}
		})
	}
	wg.Wait()
	if slices.Contains(same, false) {
		t.Fatal("P0.1: asked side by side it has answered otherwise")
	}
}
