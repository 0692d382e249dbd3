package tap_test

import (
	"errors"
	"math"
	"slices"
	"strings"
	"testing"

	"jotter/api"
	"jotter/doc"
)

// TestGreatestLog: 64 clients with 64 edits each, told from the last to the first.
func TestGreatestLog(t *testing.T) {
	x := newTap(t, api.MaxClients)
	var ops []api.Op
	for seq := 1; seq <= api.MaxEdits; seq++ {
		for c := 1; c <= api.MaxClients; c++ {
			ops = append(ops, ins(len(ops), 'x', c, seq))
		}
	}
	for i := len(ops) - 1; i >= 0; i-- {
		op := ops[i]
		mustSee(t, x, in(255, rec(64, i+1, i+1, op)))
		mustSee(t, x, in(254, edit(op.Client, i+1, i, op)))
		if i == 1 {
			wantRecords(t, x, "")
		}
	}
	wantEpoch(t, x, 255)
	wantRecords(t, x, strings.Repeat("x", api.MaxLog), ops...)
	if known := x.Known(); len(known) != api.MaxLog || known[0] != 1 || known[api.MaxLog-1] != api.MaxLog || !slices.IsSorted(known) {
		t.Fatalf("P28.4: Known() = %s", word(known))
	}
	for c := 1; c <= api.MaxClients; c++ {
		var own []api.Edit
		for i, op := range ops {
			if op.Client == c {
				own = append(own, made(i, op))
			}
		}
		wantMade(t, x, c, own...)
		wantWaiting(t, x, c)
	}
	wantNoNews(t, x, rec(1, 1, 4096, ops[4095]))
	wantNo(t, x, rec(1, 1, 4096, nop(64, 64)), 4096, api.ErrTwo)
	wantNo(t, x, edit(64, 1, 4094, ops[4095]), 64, api.ErrTwo)
}

// TestGreatestWaiting: edits of which no record is known, at the ends of their fields.
func TestGreatestWaiting(t *testing.T) {
	x := newTap(t, api.MaxClients)
	var own []api.Edit
	for seq := api.MaxEdits; seq >= 1; seq-- {
		e := made(4096-seq%2*4096, ins(4095*(seq%2), byte(31+seq), 64, seq))
		own = append([]api.Edit{e}, own...)
		mustSee(t, x, edit(64, 4096, e.Tag, e.Op))
	}
	wantMade(t, x, 64, own...)
	wantWaiting(t, x, 64, own...)
	wantKnown(t, x)
}

// TestTextThatComesAndGoes: what stands hangs on the text as it is by then, not on how much was ever inserted.
func TestTextThatComesAndGoes(t *testing.T) {
	x := newTap(t, 1)
	var ops []api.Op
	for seq := 1; seq <= api.MaxEdits; seq++ {
		ops = append(ops, ins(0, 'a', 2*seq%64+1, (seq-1)/32+1), del(0, (2*seq+1)%64+1, (seq-1)/32+1))
	}
	for i, op := range ops {
		mustSee(t, x, rec(1, 1, i+1, op))
	}
	wantRecords(t, x, "", ops...)
	mustSee(t, x, rec(1, 1, len(ops)+1, del(0, 1, 3))) // of an empty text nothing can be deleted
	wantRecords(t, x, "", ops...)
}

// TestAnyBytes: bytes of any length and content are refused with wire's errors or taken, and no call panics.
func TestAnyBytes(t *testing.T) {
	r := dice(11)
	x := newTap(t, 2)
	for n := range 80 {
		for range 40 {
			b := make([]byte, n)
			for i := range b {
				b[i] = byte(r.Uint32())
			}
			err := x.See(api.Datagram{From: 0, To: 1 + r.IntN(2), Bytes: b})
			var fault *api.Fault
			if !errors.As(err, &fault) || !slices.Contains([]api.Errno{api.ErrFrame, api.ErrLength, api.ErrDatagram}, api.Code(err)) {
				t.Fatalf("P28.2: See(% X): %v", b, err)
			}
		}
	}
	wantNothing(t, x)
}

// TestEveryByteChanged: a datagram one byte of which is another is refused, and proves nothing.
func TestEveryByteChanged(t *testing.T) {
	for _, m := range allKinds(1) {
		x := newTap(t, 1)
		g := sent(t, m)
		size := len(g.Bytes)
		for at := range size {
			for mask := 1; mask < 256; mask++ {
				g.Bytes[at] ^= byte(mask)
				if err := x.See(g); !isFault(err, size-4, api.ErrDatagram) {
					t.Fatalf("P28.2: byte %d of % X changed by %d: %v", at, g.Bytes, mask, err)
				}
				g.Bytes[at] ^= byte(mask)
			}
		}
		wantNothing(t, x)
		mustTake(t, x, g)
	}
}

// TestEndsOfInt: numbers that no client has.
func TestEndsOfInt(t *testing.T) {
	x := behindExample3(t)
	for _, c := range []int{math.MinInt, math.MaxInt, math.MinInt + 1, 1 << 32, 1<<32 + 1, 257, -1, 0, 65} {
		wantMade(t, x, c)
		wantWaiting(t, x, c)
	}
	if text := doc.Text(x.Doc()); text != "ab" {
		t.Fatalf("P28.5: Doc() is %q", text)
	}
}
