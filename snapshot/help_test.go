package snapshot_test

import (
	"encoding/binary"
	"hash/crc32"
	"math/rand/v2"
	"reflect"
	"strconv"
	"strings"
	"testing"

	"jotter/api"
	"jotter/snapshot"
)

// ins, del and nop make operations, as the chapter writes them: ins(0, 'x', 2, 1) is i0x(2,1).
func ins(pos int, ch byte, who, seq int) api.Op {
	return api.Op{Kind: api.Insert, Pos: pos, Ch: ch, Client: who, Seq: seq}
}

func del(pos, who, seq int) api.Op {
	return api.Op{Kind: api.Delete, Pos: pos, Client: who, Seq: seq}
}

func nop(who, seq int) api.Op { return api.Op{Client: who, Seq: seq} }

func edit(tag int, op api.Op) api.Edit { return api.Edit{Tag: tag, Op: op} }

func marked(mark int, op api.Op) api.Marked { return api.Marked{Mark: mark, Op: op} }

// sealed gives bytes with their sum behind them, by other means than the program's.
func sealed(b []byte) []byte {
	return binary.LittleEndian.AppendUint32(append([]byte{}, b...), crc32.ChecksumIEEE(b))
}

// jots gives the heading and these bytes with their sum.
func jots(b ...byte) []byte { return sealed(append([]byte("JOTS"), b...)) }

// turned gives sealed bytes with the one at that place another, and their sum right again.
func turned(b []byte, at int, to byte) []byte {
	body := append([]byte{}, b[:len(b)-4]...)
	body[at] = to
	return sealed(body)
}

// pair gives the edits of the chapter's example 3, and five those of examples 3 and 4.
func pair() []api.Edit { return five()[:2] }

func five() []api.Edit {
	return []api.Edit{
		edit(0, ins(0, 'a', 1, 1)), edit(0, ins(0, 'b', 2, 1)), edit(0, ins(1, 'c', 1, 2)),
		edit(1, del(0, 2, 2)), edit(1, del(0, 1, 3)),
	}
}

// of gives the state of edits that must all stand.
func of(t *testing.T, edits ...api.Edit) *snapshot.Snap {
	t.Helper()
	s, err := snapshot.Of(edits)
	if s == nil || err != nil {
		t.Fatalf("P21.1: Of %d edits that can stand: a state %t, the error %v", len(edits), s != nil, err)
	}
	return s
}

// read gives the state of bytes that must be some.
func read(t *testing.T, b []byte) *snapshot.Snap {
	t.Helper()
	s, err := snapshot.Read(b)
	if s == nil || err != nil {
		t.Fatalf("P21.3: Read of % X: a state %t, the error %v", brief(b), s != nil, err)
	}
	return s
}

// resumed gives what Resume of edits that must all stand answers.
func resumed(t *testing.T, s *snapshot.Snap, edits ...api.Edit) ([]api.Op, *snapshot.Snap) {
	t.Helper()
	done, next, err := s.Resume(edits)
	if next == nil || err != nil || len(done) != len(edits) {
		t.Fatalf("P21.6: Resume of %s: %s, a state %t, the error %v", editsWord(edits), opsWord(done), next != nil, err)
	}
	return done, next
}

// wantError ends the test unless an error is just that one.
func wantError(t *testing.T, what string, got, want error) {
	t.Helper()
	if !reflect.DeepEqual(got, want) {
		t.Fatalf("%s: the error %v, want %v", what, got, want)
	}
}

// wantRefused ends the test unless Read refuses bytes with just that error, and gives nothing else.
func wantRefused(t *testing.T, what string, b []byte, at int, e api.Errno) {
	t.Helper()
	s, err := snapshot.Read(b)
	wantError(t, "P21.3: Read of "+what, err, api.Wrap(at, e))
	if s != nil {
		t.Fatalf("P21.3: Read of %s: a state beside an error", what)
	}
}

// dice gives numbers that look mixed, the same at every run.
func dice(seed int) *rand.Rand { return rand.New(rand.NewPCG(uint64(seed), 21)) }

// brief gives the beginning of a list, because some are long.
func brief[T any](list []T) []T { return list[:min(len(list), 80)] }

// opWord gives an operation as the chapter writes it, with all that is in it.
func opWord(op api.Op) string {
	word := "kind " + strconv.Itoa(op.Kind) + " at " + strconv.Itoa(op.Pos) + " of " + strconv.Itoa(int(op.Ch))
	switch {
	case op.Kind == api.Insert:
		word = "i" + strconv.Itoa(op.Pos) + string(rune(op.Ch))
	case op.Kind == api.Delete && op.Ch == 0:
		word = "d" + strconv.Itoa(op.Pos)
	case op == nop(op.Client, op.Seq):
		word = "n"
	}
	return word + "(" + strconv.Itoa(op.Client) + "," + strconv.Itoa(op.Seq) + ")"
}

func opsWord(ops []api.Op) string {
	return joined(ops, opWord)
}

func editsWord(edits []api.Edit) string {
	return joined(edits, func(e api.Edit) string { return strconv.Itoa(e.Tag) + " " + opWord(e.Op) })
}

func waitingWord(list []api.Marked) string {
	return joined(list, func(m api.Marked) string { return strconv.Itoa(m.Mark) + " " + opWord(m.Op) })
}

// joined tells the beginning of a list.
func joined[T any](list []T, word func(T) string) string {
	var all []string
	for _, x := range brief(list) {
		all = append(all, word(x))
	}
	return "[" + strings.Join(all, ", ") + "]"
}
