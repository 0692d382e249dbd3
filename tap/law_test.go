package tap_test

import (
	"bytes"
	"fmt"
	"math/rand/v2"
	"slices"
	"strings"
	"testing"

	"jotter/api"
	"jotter/book"
	"jotter/doc"
	"jotter/script"
	"jotter/system"
	"jotter/tap"
)

// seeAll gives what a tap knows behind these datagrams, and how many of them it refused with ErrTwo.
func seeAll(t *testing.T, clients int, list []api.Datagram) (sight, int) {
	t.Helper()
	x := newTap(t, clients)
	two := 0
	for _, g := range list {
		if api.Code(x.See(g)) == api.ErrTwo {
			two++
		}
	}
	return sightOf(x, 0, 1, 2, 3), two
}

// TestAnyOrderOfFew: every four of few messages in each of their orders: either ErrTwo is answered in all of them, or in none, and then the end is the same.
func TestAnyOrderOfFew(t *testing.T) {
	var all []api.Datagram
	for _, m := range fewMessages() {
		all = append(all, sent(t, m))
	}
	ways := orders([]int{0, 1, 2, 3})
	for i := range all {
		for j := range i {
			for k := range j {
				for l := range k {
					list := []api.Datagram{all[i], all[j], all[k], all[l]}
					first, two := seeAll(t, 2, list)
					for _, way := range ways {
						mixed := []api.Datagram{list[way[0]], list[way[1]], list[way[2]], list[way[3]]}
						s, n := seeAll(t, 2, mixed)
						if (n == 0) != (two == 0) || n == 0 && !same(s, first) {
							t.Fatalf("P28.7: %s: %d refused, %s\n%s: %d refused, %s", word(list), two, word(first), word(mixed), n, word(s))
						}
					}
				}
			}
		}
	}
}

// TestAnyOrderOfMany: what is told of a log that can be, in any order, some of it again and again.
func TestAnyOrderOfMany(t *testing.T) {
	for seed := range 30 {
		r := dice(seed)
		clients := 1 + r.IntN(64)
		ops, edits := trueLog(r, clients, min(1+r.IntN(200), 64*clients))
		var list []api.Datagram
		for _, m := range tidings(r, clients, ops, edits) {
			if r.IntN(50) > 0 {
				list = append(list, sent(t, m))
			}
		}
		x := newTap(t, clients)
		for _, g := range list {
			mustTake(t, x, g)
		}
		want := wholeSight(x)
		for range 5 {
			y := newTap(t, clients)
			for _, g := range shuffled(r, append(list, shuffled(r, list)[:r.IntN(len(list)+1)]...)) {
				mustTake(t, y, g)
			}
			if got := wholeSight(y); !same(got, want) {
				t.Fatalf("P28.7: seed %d: in one order %s\nin another %s", seed, word(want), word(got))
			}
		}
	}
}

// TestRefusedByItselfAlone: address, bytes and way are looked at whatever was seen ahead.
func TestRefusedByItselfAlone(t *testing.T) {
	r := dice(7)
	for range 2000 {
		g := mixedDatagram(t, r, mixedMessage(r, 3, 2, 3))
		alone := newTap(t, 3).See(g)
		x := newTap(t, 3)
		for range r.IntN(20) {
			x.See(mixedDatagram(t, r, mixedMessage(r, 3, 2, 3)))
		}
		err := x.See(g)
		if alone != nil && !isFault(err, api.Place(alone), api.Code(alone)) || alone == nil && err != nil && api.Code(err) != api.ErrTwo {
			t.Fatalf("P28.7: See(%+v): alone %v, behind others %v", g, alone, err)
		}
	}
}

// eye plays a system and keeps each datagram that ever was in flight, as it was there, once.
type eye struct {
	x     *system.System
	all   []api.Datagram
	had   map[string]int
	epoch int // of the server's last start
}

func newEye(t *testing.T, clients int) *eye {
	t.Helper()
	x, e := system.New(clients)
	if e != api.OK {
		t.Fatalf("system.New(%d): %d", clients, e)
	}
	return &eye{x: x, had: map[string]int{}, epoch: 1}
}

func (y *eye) play(line string) api.Report {
	y.x.Do(script.Line(line))
	r := y.x.Report()
	for _, g := range r.Flight {
		if key := fmt.Sprint(g); y.had[key] == 0 {
			y.had[key]++
			y.all = append(y.all, g)
		}
	}
	if r.Server.Up {
		y.epoch = r.Server.Epoch
	}
	return r
}

// mixedRun gives the lines of a run with edits, losses, doubles, flips, crashes and starts that die.
func mixedRun(r *rand.Rand, clients, count int) []string {
	var lines []string
	put := func(form string, args ...any) { lines = append(lines, fmt.Sprintf(form, args...)) }
	for len(lines) < count {
		switch r.IntN(20) {
		case 0, 1, 2:
			put("insert %d %d %c", 1+r.IntN(clients), r.IntN(4), 'a'+r.IntN(26))
		case 3, 4:
			put("delete %d %d", 1+r.IntN(clients), r.IntN(3))
		case 5, 6:
			put("tick %d", r.IntN(clients+1))
		case 7, 8, 9:
			put("round")
		case 10, 11, 12:
			put("deliver %d", r.IntN(6))
		case 13:
			put("drop %d", r.IntN(6))
		case 14:
			put("double %d", r.IntN(6))
		case 15:
			put("flip %d %d %d", r.IntN(6), r.IntN(19), 1+r.IntN(255))
		case 16:
			if kept := r.IntN(20); r.IntN(2) == 0 {
				put("crash %d %d %d", kept, kept/2, r.IntN(256))
			} else {
				put("crash 0 0 0")
			}
			if r.IntN(3) == 0 {
				put("stumble %d 0 %d", r.IntN(6), r.IntN(256))
			}
			put("boot")
		case 17:
			put("boot")
		default:
			put("all")
		}
	}
	return lines
}

// wantWitness ends the test unless what the tap knows is true of the system behind the report.
func wantWitness(t *testing.T, what string, x witness, clients, epoch int, r api.Report) {
	t.Helper()
	done, _, err := book.Replay(r.Log)
	if err != nil {
		t.Fatalf("%s: the report's log is none: %v", what, err)
	}
	records := x.Records()
	if len(records) > len(done) || !slices.Equal(records, done[:len(records)]) {
		t.Fatalf("P28.8: %s: records %s, the log's %s", what, word(records), word(done))
	}
	for _, rev := range x.Known() {
		if rev < 1 || rev > len(done) {
			t.Fatalf("P28.8: %s: record %d is known, the log has %d", what, rev, len(done))
		}
	}
	for c := 1; c <= clients; c++ {
		for _, e := range x.Made(c) {
			if !slices.Contains(r.Log, e) && !slices.Contains(r.Sites[c-1].Pending, e) {
				t.Fatalf("P28.8: %s: client %d has made %+v; the log %s, pending %s", what, c, e, word(r.Log), word(r.Sites[c-1].Pending))
			}
		}
	}
	if x.Epoch() > epoch {
		t.Fatalf("P28.8: %s: epoch %d, the server's last start had %d", what, x.Epoch(), epoch)
	}
}

// wantKnowsAll ends the test if a client has taken in a record that is not among the tap's.
func wantKnowsAll(t *testing.T, what string, x witness, r api.Report) {
	t.Helper()
	for _, v := range r.Sites {
		if v.Have > len(x.Records()) {
			t.Fatalf("P28.9: %s: client %d has %d records, the tap %d", what, v.ID, v.Have, len(x.Records()))
		}
	}
}

// wantSeen shows datagrams to a tap, which must refuse just the spoilt ones.
func wantSeen(t *testing.T, what string, clients int, list []api.Datagram) witness {
	t.Helper()
	x := newTap(t, clients)
	for _, g := range list {
		err := x.See(g)
		if g.Spoilt && !isFault(err, len(g.Bytes)-4, api.ErrDatagram) || !g.Spoilt && err != nil {
			t.Fatalf("P28.8: %s: See(%+v): %v", what, g, err)
		}
	}
	return x
}

// TestTrueWitness: mixed runs; at their ends taps that saw all, in any order, and taps that saw a part.
func TestTrueWitness(t *testing.T) {
	beginnings, flips, crashes := 0, 0, 0
	for seed := range 100 {
		r := dice(seed)
		clients := 1 + r.IntN(4)
		y := newEye(t, clients)
		var last api.Report
		for _, line := range mixedRun(r, clients, 200) {
			last = y.play(line)
		}
		what := fmt.Sprintf("seed %d", seed)
		for range 3 {
			list := shuffled(r, append(slices.Clone(y.all), shuffled(r, y.all)[:len(y.all)/3]...))
			whole := wantSeen(t, what, clients, list)
			wantWitness(t, what, whole, clients, y.epoch, last)
			wantKnowsAll(t, what, whole, last)
			beginnings += len(whole.Records())
			wantWitness(t, what, wantSeen(t, what, clients, list[:r.IntN(len(list)+1)]), clients, y.epoch, last)
		}
		crashes += y.epoch - 1
		for _, g := range y.all {
			if g.Spoilt {
				flips++
			}
		}
	}
	if beginnings < 2000 || flips < 200 || crashes < 200 {
		t.Fatalf("the runs tell little: %d records, %d flips, %d crashes", beginnings, flips, crashes)
	}
}

// TestSettled: once all have all, so has the tap.
func TestSettled(t *testing.T) {
	y := newEye(t, 3)
	lines := "insert 1 0 a\ninsert 2 0 b\ninsert 3 0 c\n" + strings.Repeat("round\nall\n", 8) +
		"delete 1 1\ndelete 2 1\ninsert 3 3 d\nround\nall\ncrash 5 0 9\nboot\ninsert 1 0 e\n" + strings.Repeat("round\nall\n", 12)
	var last api.Report
	for line := range strings.Lines(lines) {
		last = y.play(strings.TrimSuffix(line, "\n"))
	}
	x := wantSeen(t, "settled", 3, y.all)
	done, text, _ := book.Replay(last.Log)
	if len(done) != 7 || !slices.Contains(done, nop(2, 2)) || x.Epoch() != 2 || !slices.Equal(x.Records(), done) || !doc.Equal(x.Doc(), text) || !doc.Equal(x.Doc(), last.Server.Told) {
		t.Fatalf("P28.8, P28.9: epoch %d, records %s, want %s", x.Epoch(), word(x.Records()), word(done))
	}
	for c := 1; c <= 3; c++ {
		var own []api.Edit
		for _, e := range last.Log {
			if e.Op.Client == c {
				own = append(own, e)
			}
		}
		if !slices.Equal(x.Made(c), own) || len(x.Waiting(c)) != 0 {
			t.Fatalf("P28.6: client %d: made %s, waiting %s; in the log %s", c, word(x.Made(c)), word(x.Waiting(c)), word(own))
		}
	}
}

// TestWaitingIsPending: an edit that was seen, but crashed away ahead of its sync, waits until its record is seen.
func TestWaitingIsPending(t *testing.T) {
	y := newEye(t, 2)
	y.play("insert 1 0 a")
	for range 4 {
		y.play("round")
		y.play("all")
	}
	y.play("crash 0 0 0")
	last := y.play("boot")
	x := wantSeen(t, "crashed", 2, y.all)
	if want := []api.Edit{made(0, ins(0, 'a', 1, 1))}; len(last.Log) != 0 || len(x.Known()) != 0 || !slices.Equal(x.Waiting(1), want) || !slices.Equal(last.Sites[0].Pending, want) {
		t.Fatalf("P28.8: waiting %s, pending %s, in the log %s", word(x.Waiting(1)), word(last.Sites[0].Pending), word(last.Log))
	}
}

// TestHandedInIsNotKept: the bytes stay as they were, and what is written into them later is not seen.
func TestHandedInIsNotKept(t *testing.T) {
	for _, m := range append(fewMessages(), allKinds(2)...) {
		x := newTap(t, 2)
		g := sent(t, m)
		room := append(slices.Clone(g.Bytes), 1, 2, 3)
		g.Bytes = room[:len(g.Bytes)]
		old := slices.Clone(room)
		mustTake(t, x, g)
		if !bytes.Equal(room, old) {
			t.Fatalf("P28.10: See changes % X into % X", old, room)
		}
		before := wholeSight(x)
		for i := range room {
			room[i] = 255
		}
		if after := wholeSight(x); !same(after, before) {
			t.Fatalf("P28.10: what is written into the bytes changes %s into %s", word(before), word(after))
		}
	}
}

// scribble writes into a list, and into its spare room.
func scribble[T any](list []T, x T) {
	for i := range list[:cap(list)] {
		list[:cap(list)][i] = x
	}
}

// TestAnswersAreNewMemory: writing into what is answered changes nothing that is answered later, nor another answer.
func TestAnswersAreNewMemory(t *testing.T) {
	x := behindExample3(t)
	mustSee(t, x, edit(1, 1, 0, a1()))
	mustSee(t, x, edit(1, 3, 2, ins(0, 'z', 1, 3)))
	want, held := wholeSight(x), wholeSight(x)
	for c := -1; c <= 65; c++ {
		scribble(x.Made(c), made(9, nop(9, 9)))
		scribble(x.Waiting(c), made(9, nop(9, 9)))
	}
	scribble(x.Known(), 99)
	scribble(x.Records(), nop(9, 9))
	scribble(x.Doc(), api.Elem{Ch: 'q'})
	if got := wholeSight(x); !same(got, want) || !same(held, want) {
		t.Fatalf("P28.10: what is written into answers changes %s into %s", word(want), word(got))
	}
	mustSee(t, x, rec(1, 3, 3, nop(1, 2)))
	mustSee(t, x, rec(1, 4, 4, ins(0, 'z', 1, 3)))
	if !same(held, want) {
		t.Fatalf("P28.10: what is seen later changes earlier answers: %s, want %s", word(held), word(want))
	}
}

// TestAskingChangesNothing: however often, and in whatever order.
func TestAskingChangesNothing(t *testing.T) {
	x := behindExample3(t)
	want := wholeSight(x)
	for range 10 {
		if got := wholeSight(x); !same(got, want) {
			t.Fatalf("P28.10: asked again: %s, want %s", word(got), word(want))
		}
	}
}

// TestSideBySide: taps that see the same at the same time know the same.
func TestSideBySide(t *testing.T) {
	r := dice(3)
	ops, edits := trueLog(r, 8, 150)
	var list []api.Datagram
	for _, m := range tidings(r, 8, ops, edits) {
		list = append(list, sent(t, m))
	}
	sights := make(chan sight)
	for range 8 {
		go func() {
			x, _ := tap.New(8)
			for _, g := range list {
				x.See(g)
			}
			sights <- wholeSight(x)
		}()
	}
	want := <-sights
	if !slices.Equal(want.records, ops) {
		t.Errorf("P28.5: records %s, want %s", word(want.records), word(ops))
	}
	for range 7 {
		if got := <-sights; !same(got, want) {
			t.Errorf("P0.1: %s beside %s", word(got), word(want))
		}
	}
}
