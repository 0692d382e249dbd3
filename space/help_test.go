package space_test

import (
	"math"
	"math/rand/v2"
	"slices"
	"strconv"
	"strings"
	"testing"

	"jotter/api"
	"jotter/space"
)

// ins, del and nop make operations of the edit (1,1); by gives one to another edit.
func ins(pos int, ch byte) api.Op {
	return api.Op{Kind: api.Insert, Pos: pos, Ch: ch, Client: 1, Seq: 1}
}

func del(pos int) api.Op { return api.Op{Kind: api.Delete, Pos: pos, Client: 1, Seq: 1} }

func nop() api.Op { return api.Op{Kind: api.Nop, Client: 1, Seq: 1} }

func by(op api.Op, client, seq int) api.Op {
	op.Client, op.Seq = client, seq
	return op
}

func ops(list ...api.Op) []api.Op { return list }

func at(mark int, op api.Op) api.Marked { return api.Marked{Mark: mark, Op: op} }

// filled gives a space of that side in which these are kept.
func filled(t *testing.T, first bool, kept ...api.Marked) *space.Space {
	t.Helper()
	x := space.New(first)
	for _, m := range kept {
		wantKeep(t, "P10.2", x, m.Mark, m.Op, api.OK)
	}
	return x
}

// lined gives a space of that side with a line in its queue, under the marks from 1 on.
func lined(t *testing.T, first bool, line []api.Op) *space.Space {
	t.Helper()
	return filled(t, first, marked(line)...)
}

// marked gives a line with the marks from 1 on.
func marked(line []api.Op) []api.Marked {
	all := make([]api.Marked, len(line))
	for i, op := range line {
		all[i] = at(i+1, op)
	}
	return all
}

// wantKeep ends the test unless Keep answers so.
func wantKeep(t *testing.T, what string, x *space.Space, mark int, op api.Op, want api.Errno) {
	t.Helper()
	if e := x.Keep(mark, op); e != want {
		t.Fatalf("%s: Keep(%d, %s) = %d, want %d", what, mark, word(op), e, want)
	}
}

// wantDrop ends the test unless DropTo answers so.
func wantDrop(t *testing.T, what string, x *space.Space, mark, want int) {
	t.Helper()
	if n := x.DropTo(mark); n != want {
		t.Fatalf("%s: DropTo(%d) = %d, want %d", what, mark, n, want)
	}
}

// wantState ends the test unless the last mark and the queue are these.
func wantState(t *testing.T, what string, x *space.Space, last int, queue ...api.Marked) {
	t.Helper()
	if got := x.Queue(); x.Last() != last || !slices.Equal(got, queue) {
		t.Fatalf("%s: Last %d, queue %s, want %d, %s", what, x.Last(), words(got), last, words(queue))
	}
}

// wantLook ends the test unless Look answers that operation, and leaves all as it was.
func wantLook(t *testing.T, what string, x *space.Space, op, want api.Op) {
	t.Helper()
	last, queue := x.Last(), x.Queue()
	if got, e := x.Look(op); e != api.OK || got != want {
		t.Fatalf("%s: Look(%s) = %s, %d, want %s", what, word(op), word(got), e, word(want))
	}
	wantState(t, what+": P10.5: behind Look", x, last, queue...)
}

// wantCross ends the test unless Look and Cross both answer that operation, and Cross leaves the last mark as it was.
func wantCross(t *testing.T, what string, x *space.Space, op, want api.Op) {
	t.Helper()
	wantLook(t, what, x, op, want)
	last := x.Last()
	if got, e := x.Cross(op); e != api.OK || got != want || x.Last() != last {
		t.Fatalf("%s: Cross(%s) = %s, %d, Last %d, want %s, Last %d", what, word(op), word(got), e, x.Last(), word(want), last)
	}
}

// wantRefused ends the test unless Look and Cross both answer that error and the zero operation, and nothing changes.
func wantRefused(t *testing.T, what string, x *space.Space, op api.Op, want api.Errno) {
	t.Helper()
	last, queue := x.Last(), x.Queue()
	if got, e := x.Look(op); e != want || got != (api.Op{}) {
		t.Fatalf("%s: Look(%s) = %s, %d, want the zero operation, %d", what, word(op), word(got), e, want)
	}
	if got, e := x.Cross(op); e != want || got != (api.Op{}) {
		t.Fatalf("%s: Cross(%s) = %s, %d, want the zero operation, %d", what, word(op), word(got), e, want)
	}
	wantState(t, what+": a refused one changes nothing", x, last, queue...)
}

// word gives an operation as the chapter writes it, with its edit.
func word(op api.Op) string {
	who := "(" + strconv.Itoa(op.Client) + "," + strconv.Itoa(op.Seq) + ")"
	switch op.Kind {
	case api.Insert:
		return "i" + strconv.Itoa(op.Pos) + strconv.Quote(string(rune(op.Ch))) + who
	case api.Delete:
		return "d" + strconv.Itoa(op.Pos) + who
	}
	return "n" + strconv.Itoa(op.Kind) + "/" + strconv.Itoa(op.Pos) + who
}

// words gives a queue in words.
func words(queue []api.Marked) string {
	all := make([]string, len(queue))
	for i, m := range queue {
		all[i] = strconv.Itoa(m.Mark) + " " + word(m.Op)
	}
	return brief("[" + strings.Join(all, ", ") + "]")
}

// edges gives the numbers worth handing in as marks: all near some numbers, and those at the ends of int.
func edges(near ...int) []int {
	nums := []int{math.MinInt, math.MinInt + 1, -4096, 1<<32 + 1, 1 << 31, 1 << 62, math.MaxInt - 1, math.MaxInt}
	for _, middle := range near {
		for d := -2; d <= 2; d++ {
			nums = append(nums, middle+d)
		}
	}
	return nums
}

// wrongOps gives operations that are none, each with its error: the one that layer 4 names first.
func wrongOps() map[api.Op]api.Errno {
	return map[api.Op]api.Errno{
		{Kind: 9}: api.ErrOpKind,
		{Kind: 5}: api.ErrOpKind,
		{Kind: 3, Pos: 1, Ch: 'a', Client: 1, Seq: 1}: api.ErrOpKind,
		{Kind: -1, Client: 1, Seq: 1}:                 api.ErrOpKind,
		{Kind: math.MaxInt, Client: 1, Seq: 1}:        api.ErrOpKind,
		{}:                                            api.ErrWho,
		by(ins(0, 'a'), 0, 1):                         api.ErrWho,
		by(ins(0, 'a'), 65, 1):                        api.ErrWho,
		by(del(0), 1, 0):                              api.ErrWho,
		by(del(0), 1, 65):                             api.ErrWho,
		by(nop(), -1, 1):                              api.ErrWho,
		by(ins(4096, 0), 0, 0):                        api.ErrWho,
		ins(0, 31):                                    api.ErrCh,
		ins(0, 127):                                   api.ErrCh,
		ins(4096, 0):                                  api.ErrCh,
		{Kind: api.Delete, Ch: 'a', Client: 1, Seq: 1}: api.ErrCh,
		{Kind: api.Nop, Ch: 'a', Client: 1, Seq: 1}:    api.ErrCh,
		ins(-1, 'a'):          api.ErrPos,
		ins(4096, 'a'):        api.ErrPos,
		del(4096):             api.ErrPos,
		del(-1):               api.ErrPos,
		del(math.MaxInt):      api.ErrPos,
		ins(math.MinInt, 'a'): api.ErrPos,
		{Kind: api.Nop, Pos: 1, Client: 1, Seq: 1}: api.ErrPos,
	}
}

// anyOp gives a valid operation at one of the first places.
func anyOp(r *rand.Rand, places int) api.Op {
	op := api.Op{Client: 1 + r.IntN(api.MaxClients), Seq: 1 + r.IntN(api.MaxEdits)}
	switch k := r.IntN(9); {
	case k < 5:
		op.Kind, op.Pos, op.Ch = api.Insert, r.IntN(places), byte(api.LeastCh+r.IntN(api.MostCh-api.LeastCh+1))
	case k < 8:
		op.Kind, op.Pos = api.Delete, r.IntN(places)
	}
	return op
}

// anyLine gives so many valid operations.
func anyLine(r *rand.Rand, length, places int) []api.Op {
	line := make([]api.Op, length)
	for i := range line {
		line[i] = anyOp(r, places)
	}
	return line
}

// brief gives the beginning of a text, because some lists here are long.
func brief(s string) string { return s[:min(len(s), 300)] }

// dice gives numbers that look mixed, the same at every run.
func dice(seed int) *rand.Rand { return rand.New(rand.NewPCG(uint64(seed), 10)) }
