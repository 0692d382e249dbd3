package branch_test

import (
	"math/rand/v2"
	"slices"
	"strconv"
	"strings"
	"testing"

	"jotter/api"
	"jotter/book"
	"jotter/branch"
	"jotter/disk"
	"jotter/doc"
	"jotter/revision"
)

// ins and del make operations, as the chapter writes them: ins(0, 'x', 2, 1) is i0x(2,1).
func ins(pos int, ch byte, who, seq int) api.Op {
	return api.Op{Kind: api.Insert, Pos: pos, Ch: ch, Client: who, Seq: seq}
}

func del(pos, who, seq int) api.Op {
	return api.Op{Kind: api.Delete, Pos: pos, Client: who, Seq: seq}
}

func edit(tag int, op api.Op) api.Edit { return api.Edit{Tag: tag, Op: op} }

// run gives the run of own characters from a place up to another.
func run(from, to int) api.Run { return api.Run{From: from, To: to} }

// tale is a log, as its book and as its past.
type tale struct {
	*revision.Past
	log *book.Book
}

// told gives the tale of a log of these edits.
func told(t *testing.T, edits ...api.Edit) tale {
	t.Helper()
	d := disk.New()
	b, err := book.Open(d)
	if err != nil {
		t.Fatalf("book.Open of a new disk: %v", err)
	}
	b.Boot()
	for i, e := range edits {
		if _, _, bad := b.Add(e); bad != api.OK {
			t.Fatalf("book.Add of edit %d: %d", i, bad)
		}
	}
	return read(t, d, b)
}

// read gives the tale of what lies on a disk.
func read(t *testing.T, d *disk.Disk, b *book.Book) tale {
	t.Helper()
	p, err := revision.Open(d.Bytes())
	if p == nil || err != nil || p.Revs() != b.Revs() {
		t.Fatalf("revision.Open: a past %t, the error %v", p != nil, err)
	}
	return tale{p, b}
}

// elems gives the elements of a revision.
func (x tale) elems(t *testing.T, rev int) []api.Elem {
	t.Helper()
	text, e := x.log.Doc(rev)
	if e != api.OK {
		t.Fatalf("book.Doc(%d): %d", rev, e)
	}
	return text
}

// text gives the characters of a revision.
func (x tale) text(t *testing.T, rev int) string {
	t.Helper()
	return doc.Text(x.elems(t, rev))
}

// example gives the past of layer 18's examples.
func example(t *testing.T) tale {
	t.Helper()
	x := told(t,
		edit(0, ins(0, 'a', 1, 1)), edit(0, ins(0, 'b', 2, 1)), edit(0, ins(1, 'c', 1, 2)),
		edit(1, del(0, 2, 2)), edit(1, del(0, 1, 3)), edit(1, ins(1, 'x', 2, 3)))
	for rev, want := range []string{"", "a", "ab", "abc", "bc", "bc", "bcx"} {
		if got := x.text(t, rev); got != want {
			t.Fatalf("the examples' log: revision %d is %q, want %q", rev, got, want)
		}
	}
	return x
}

// written plays a log of mixed edits by so many clients; it ends early if no edit is left. lag: how many records a client may be behind. fade: of ten edits so many are deletions, if there is something to delete.
func written(t *testing.T, r *rand.Rand, clients, revs, lag, fade int, letters string) tale {
	t.Helper()
	d := disk.New()
	b, err := book.Open(d)
	if err != nil {
		t.Fatalf("book.Open of a new disk: %v", err)
	}
	b.Boot()
	size := 0
	for tries := 0; b.Revs() < revs && tries < 40*revs; tries++ {
		client := 1 + r.IntN(clients)
		seq, tag := b.Last(client)
		tag = max(tag, b.Revs()-r.IntN(lag+1))
		op := ins(r.IntN(size+2), letters[r.IntN(len(letters))], client, seq+1)
		if size > 0 && r.IntN(10) < fade {
			op = del(r.IntN(size+1), client, seq+1)
		}
		_, done, e := b.Add(edit(tag, op))
		if e == api.OK && done.Kind == api.Insert {
			size++
		} else if e == api.OK && done.Kind == api.Delete {
			size--
		}
	}
	return read(t, d, b)
}

// dice gives numbers that look mixed, the same at every run.
func dice(seed int) *rand.Rand { return rand.New(rand.NewPCG(uint64(seed), 22)) }

// altered gives a text that has come from another one by that many changes of a character each.
func altered(r *rand.Rand, text string, times int, letters string) string {
	list := []byte(text)
	for range times {
		if n := len(list); n > 0 && r.IntN(2) == 0 {
			at := r.IntN(n)
			list = slices.Delete(list, at, at+1)
		} else {
			list = slices.Insert(list, r.IntN(n+1), letters[r.IntN(len(letters))])
		}
	}
	return string(list)
}

// allTexts gives every text of those letters with at most n characters.
func allTexts(letters string, n int) []string {
	all := []string{""}
	for last := all; n > 0; n-- {
		var next []string
		for _, text := range last {
			for i := range len(letters) {
				next = append(next, text+letters[i:i+1])
			}
		}
		all = append(all, next...)
		last = next
	}
	return all
}

// quote tells a text, and keeps what a failed test tells readable.
func quote(s string) string {
	if len(s) > 120 {
		return strconv.Quote(s[:120]) + ".. (" + strconv.Itoa(len(s)) + ")"
	}
	return strconv.Quote(s)
}

// opsWord gives operations as the chapter writes them, with all that is in them.
func opsWord(ops []api.Op) string {
	var all []string
	for _, op := range ops {
		word := "kind " + strconv.Itoa(op.Kind) + " at " + strconv.Itoa(op.Pos) + " of " + strconv.Itoa(int(op.Ch))
		if op.Kind == api.Insert {
			word = "i" + strconv.Itoa(op.Pos) + string(rune(op.Ch))
		} else if op.Kind == api.Delete && op.Ch == 0 {
			word = "d" + strconv.Itoa(op.Pos)
		}
		all = append(all, word+"("+strconv.Itoa(op.Client)+","+strconv.Itoa(op.Seq)+")")
	}
	return "[" + strings.Join(all, " ") + "]"
}

// wantRebase ends the test unless Rebase takes the text and gives just these operations.
func wantRebase(t *testing.T, p *revision.Past, base int, text string, client, first int, want ...api.Op) {
	t.Helper()
	if ops, e := branch.Rebase(p, base, text, client, first); !slices.Equal(ops, want) || e != api.OK {
		t.Fatalf("P22.2: Rebase(p, %d, %s, %d, %d) = %s, %d, want %s", base, quote(text), client, first, opsWord(ops), e, opsWord(want))
	}
}

func wantMerge(t *testing.T, p *revision.Past, base int, text, want string) {
	t.Helper()
	if s, e := branch.Merge(p, base, text); s != want || e != api.OK {
		t.Fatalf("P22.3: Merge(p, %d, %s) = %s, %d, want %s", base, quote(text), quote(s), e, quote(want))
	}
}

func wantLost(t *testing.T, p *revision.Past, base int, text string, want int) {
	t.Helper()
	if n, e := branch.Lost(p, base, text); n != want || e != api.OK {
		t.Fatalf("P22.4: Lost(p, %d, %s) = %d, %d, want %d", base, quote(text), n, e, want)
	}
}

func wantClashes(t *testing.T, p *revision.Past, base int, text string, want ...api.Run) {
	t.Helper()
	if runs, e := branch.Clashes(p, base, text); !slices.Equal(runs, want) || e != api.OK {
		t.Fatalf("P22.5: Clashes(p, %d, %s) = %v, %d, want %v", base, quote(text), runs, e, want)
	}
}

// wantNoRebase ends the test unless Rebase refuses with that error, and gives nothing else.
func wantNoRebase(t *testing.T, p *revision.Past, base int, text string, client, first int, want api.Errno) {
	t.Helper()
	if ops, e := branch.Rebase(p, base, text, client, first); len(ops) != 0 || e != want {
		t.Fatalf("P22.1: Rebase(p, %d, %s, %d, %d) = %s, %d, want nothing, %d", base, quote(text), client, first, opsWord(ops), e, want)
	}
}

// wantRefused ends the test unless all four refuse the text with that error, and give nothing else.
func wantRefused(t *testing.T, p *revision.Past, base int, text string, want api.Errno) {
	t.Helper()
	wantNoRebase(t, p, base, text, 1, 1, want)
	if s, e := branch.Merge(p, base, text); s != "" || e != want {
		t.Fatalf("P22.1: Merge(p, %d, %s) = %s, %d, want nothing, %d", base, quote(text), quote(s), e, want)
	}
	if n, e := branch.Lost(p, base, text); n != 0 || e != want {
		t.Fatalf("P22.1: Lost(p, %d, %s) = %d, %d, want 0, %d", base, quote(text), n, e, want)
	}
	if runs, e := branch.Clashes(p, base, text); len(runs) != 0 || e != want {
		t.Fatalf("P22.1: Clashes(p, %d, %s) = %v, %d, want nothing, %d", base, quote(text), runs, e, want)
	}
}
