package doctor_test

import (
	"bytes"
	"testing"

	"jotter/api"
	"jotter/doctor"
)

// The chapter's examples 1 to 6 and 9.
func TestExamples(t *testing.T) {
	a := logA()
	spoilt := changed(a, 15, 64)
	head := changed(a, 2, 64)
	boots := join(a, B(3), B(2))
	again := join(a, E(2, del(0, 1, 1)))
	seven := join(a, recordOf([]byte{7}))
	zeros := make([]byte, api.MaxDisk)
	for _, c := range []struct {
		what string
		b    []byte
		want all
	}{
		{"example 1", a, all{ofA(), true, a, 0, a, 0, dumpA}},
		{"example 2", join(a, []byte{1, 2, 3}), all{append(ofA(), noneAt(44, 3, api.ErrTorn)), false, a, 3, a, 0, dumpA}},
		{"example 3", spoilt, all{[]api.Finding{bootAt(0, 1), noneAt(10, 17, api.ErrRecord), editAt(27, 1)}, false, B(1), 34, join(B(1), E(0, ins(0, 'b', 2, 1))), 1, "boot 1\n"}},
		{"example 4", head, all{[]api.Finding{noneAt(0, 10, api.ErrHead), noneAt(10, 17, api.ErrUnborn), noneAt(27, 17, api.ErrUnborn)}, false, nil, 44, nil, 0, ""}},
		{"example 5", boots, all{append(ofA(), noneAt(44, 10, api.ErrItem), bootAt(54, 2)), false, a, 20, join(a, B(2)), 1, dumpA}},
		{"example 6, an edit again", again, all{append(ofA(), noneAt(44, 17, api.ErrDone)), false, a, 17, a, 0, dumpA}},
		{"example 6, the payload 7", seven, all{append(ofA(), noneAt(44, 9, api.ErrMsgKind)), false, a, 9, a, 0, dumpA}},
		{"example 9, zeros", zeros, all{[]api.Finding{noneAt(0, api.MaxDisk, api.ErrHead)}, false, nil, api.MaxDisk, nil, 0, ""}},
		{"example 9, nil", nil, all{sound: true}},
		{"no byte", []byte{}, all{sound: true}},
	} {
		wantAll(t, c.what, c.b, c.want)
	}
}

// The chapter's example 7.
func TestExampleLoad(t *testing.T) {
	wantNoLoad(t, "boot 1\ndel 0 0 1 1\n", 1, api.ErrFits)
	wantNoLoad(t, "boot 2\n", 0, api.ErrFits)
	wantNoLoad(t, "boot 1", 0, api.ErrLoad)
	wantNoLoad(t, "boot 256\n", 0, api.ErrLoad)
	for _, line := range []string{"\n", "ins 0 0 31 1 1\n", "ins 00 0 97 1 1\n", "ins 0 0 97 1  1\n", "ins 0 0 97 1\n", "sub 0 0 1 1\n"} {
		wantNoLoad(t, "boot 1\n"+line, 1, api.ErrLoad)
	}
}

// The chapter's example 8.
func TestExamplePart(t *testing.T) {
	a := logA()
	wantPart(t, "A and A", a, a, 3, true)
	wantPart(t, "A and its first 27 bytes", a, a[:27], 2, true)
	wantPart(t, "A and another edit", a, join(B(1), E(0, ins(0, 'z', 1, 1))), 1, false)
	wantPart(t, "nothing and A", nil, a, 0, true)
	wantPart(t, "A and A with a byte changed", a, changed(a, 15, 64), 1, true)
}

// TestTooManyBytes: more bytes than a disk's are not looked into, be a log there or not.
func TestTooManyBytes(t *testing.T) {
	a := logA()
	for _, b := range [][]byte{make([]byte, api.MaxDisk+1), join(a, make([]byte, api.MaxDisk+1-len(a))), make([]byte, 1<<26)} {
		wantAll(t, "P26.1: too many bytes", b, all{[]api.Finding{noneAt(0, len(b), api.ErrHuge)}, false, nil, len(b), nil, 0, ""})
		wantPart(t, "P26.1: too many bytes and A", b, a, 0, true)
		wantPart(t, "P26.1: too many bytes and nothing", b, nil, 0, true)
		wantPart(t, "P26.1: too many bytes twice", b, b, 0, true)
	}
	full := join(a, make([]byte, api.MaxDisk-len(a)))
	wantAll(t, "P26.1: as many as a disk has", full, all{append(ofA(), noneAt(44, api.MaxDisk-44, api.ErrHead)), false, a, api.MaxDisk - 44, a, 0, dumpA})
	wantPart(t, "P26.1: as many as a disk has, and A", full, a, 3, true)
}

// TestStretches: where a stretch of bytes without a record begins and ends, and that its reason is the one at its beginning.
func TestStretches(t *testing.T) {
	a := logA()
	b := E(0, ins(0, 'b', 2, 1))
	inside := join([]byte{0, 64, 255, 191}, b) // a head of 64 bytes that are not there, and a record behind it
	for _, c := range []struct {
		what string
		b    []byte
		want []api.Finding
	}{
		{"one byte", []byte{0}, []api.Finding{noneAt(0, 1, api.ErrTorn)}},
		{"three bytes of a head", a[:3], []api.Finding{noneAt(0, 3, api.ErrTorn)}},
		{"a head alone", a[:4], []api.Finding{noneAt(0, 4, api.ErrTorn)}},
		{"all but one byte", a[:9], []api.Finding{noneAt(0, 9, api.ErrTorn)}},
		{"a torn second record", a[:26], []api.Finding{bootAt(0, 1), noneAt(10, 16, api.ErrTorn)}},
		{"a byte ahead", join([]byte{0}, a), []api.Finding{noneAt(0, 1, api.ErrHead), bootAt(1, 1), editAt(11, 1), editAt(28, 2)}},
		{"bytes between", join(a[:10], []byte{9, 9, 9, 9, 9}, a[10:]), []api.Finding{bootAt(0, 1), noneAt(10, 5, api.ErrHead), editAt(15, 1), editAt(32, 2)}},
		{"two spoilt records are one stretch", changed(changed(a, 5, 1), 15, 1), []api.Finding{noneAt(0, 27, api.ErrRecord), noneAt(27, 17, api.ErrUnborn)}},
		{"a spoilt head, then a spoilt sum", changed(changed(a, 0, 1), 26, 1), []api.Finding{noneAt(0, 27, api.ErrHead), noneAt(27, 17, api.ErrUnborn)}},
		{"a torn head that has a record in it", join(a[:10], inside), []api.Finding{bootAt(0, 1), noneAt(10, 4, api.ErrTorn), editAt(14, 1)}},
		{"a spoilt record that has a record in it", join(a[:10], changed(recordOf(join([]byte{7}, b, []byte{7, 7})), 4, 1)), []api.Finding{bootAt(0, 1), noneAt(10, 5, api.ErrRecord), editAt(15, 1), noneAt(32, 6, api.ErrHead)}},
		{"a record that has a record in it", join(a[:10], recordOf(b)), []api.Finding{bootAt(0, 1), noneAt(10, 25, api.ErrMsgKind)}},
		{"a record of 64 bytes", join(a[:10], recordOf(make([]byte, 64)), b), []api.Finding{bootAt(0, 1), noneAt(10, 72, api.ErrMsgKind), editAt(82, 1)}},
		{"a record of 65 bytes", join(a[:10], recordOf(make([]byte, 65)), b), []api.Finding{bootAt(0, 1), noneAt(10, 73, api.ErrHead), editAt(83, 1)}},
		{"a record of no byte", join(a[:10], recordOf(nil), b), []api.Finding{bootAt(0, 1), noneAt(10, 8, api.ErrHead), editAt(18, 1)}},
		{"two records of no item, then bytes", join(a[:10], recordOf([]byte{7}, []byte{8}), []byte{1, 2, 3, 4}), []api.Finding{bootAt(0, 1), noneAt(10, 9, api.ErrMsgKind), noneAt(19, 9, api.ErrMsgKind), noneAt(28, 4, api.ErrHead)}},
		{"bytes, then a record of no item", join(a[:10], []byte{0, 0}, recordOf([]byte{7}), b), []api.Finding{bootAt(0, 1), noneAt(10, 2, api.ErrHead), noneAt(12, 9, api.ErrMsgKind), editAt(21, 1)}},
	} {
		wantLook(t, c.what, c.b, c.want...)
	}
}

// TestReasons: each reason for which a whole record cannot stand, and that the state stays as it was: the edit behind it is taken.
func TestReasons(t *testing.T) {
	next := E(1, ins(1, 'y', 1, 2))
	for _, c := range []struct {
		payload []byte
		want    api.Errno
	}{
		{[]byte{0}, api.ErrMsgKind},
		{[]byte{3, 1}, api.ErrMsgKind},
		{[]byte{1}, api.ErrLength},
		{[]byte{1, 2, 0}, api.ErrLength},
		{append(editOf(2, ins(0, 'x', 1, 2)), 0), api.ErrLength},
		{[]byte{1, 0}, api.ErrField},
		{editOf(4097, ins(0, 'x', 1, 2)), api.ErrField},
		{editOf(2, ins(4096, 'x', 1, 2)), api.ErrField},
		{editOf(2, ins(0, 31, 1, 2)), api.ErrField},
		{editOf(2, ins(0, 127, 1, 2)), api.ErrField},
		{editOf(2, ins(0, 'x', 65, 1)), api.ErrField},
		{editOf(2, ins(0, 'x', 1, 65)), api.ErrField},
		{editOf(2, api.Op{Kind: 3, Client: 1, Seq: 2}), api.ErrField},
		{bootOf(1), api.ErrItem},
		{bootOf(3), api.ErrItem},
		{bootOf(255), api.ErrItem},
		{editOf(2, nop(1, 2)), api.ErrNoEdit},
		{editOf(0, ins(0, 'a', 1, 1)), api.ErrDone},
		{editOf(2, ins(0, 'a', 1, 3)), api.ErrTurn},
		{editOf(3, ins(0, 'a', 1, 2)), api.ErrTag},
		{editOf(1, ins(2, 'a', 1, 2)), api.ErrPlace},
		{editOf(0, del(1, 1, 2)), api.ErrPlace},
	} {
		bad := recordOf(c.payload)
		b := join(logA(), bad, next)
		what := hexWord(c.payload)
		wantAll(t, what, b, all{append(ofA(), noneAt(44, len(bad), c.want), editAt(44+len(bad), 3)), false, logA(), len(bad) + 17, join(logA(), next), 1, dumpA})
		wantAll(t, what+", at the end", b[:44+len(bad)], all{append(ofA(), noneAt(44, len(bad), c.want)), false, logA(), len(bad), logA(), 0, dumpA})
	}
	wantLook(t, "a wrong field ahead of any boot", recordOf(editOf(0, ins(4096, 'x', 1, 1))), noneAt(0, 17, api.ErrField))
	wantLook(t, "a Nop ahead of any boot", E(0, nop(1, 1)), noneAt(0, 17, api.ErrUnborn))
	wantLook(t, "a boot of epoch 2 first", join(B(2), B(1)), noneAt(0, 10, api.ErrItem), bootAt(10, 1))
}

// TestWhatHangsOnWhat: behind a record that is gone, what needs it cannot stand either, and what does not is saved.
func TestWhatHangsOnWhat(t *testing.T) {
	first, second, third := E(0, ins(0, 'a', 1, 1)), E(1, ins(1, 'b', 1, 2)), E(0, ins(0, 'c', 2, 1))
	b := join(B(1), first, second, third, B(2), E(3, del(0, 3, 1)))
	b[20] ^= 1
	wantAll(t, "the first edit gone", b, all{
		[]api.Finding{bootAt(0, 1), noneAt(10, 17, api.ErrRecord), noneAt(27, 17, api.ErrTurn), editAt(44, 1), bootAt(61, 2), noneAt(71, 17, api.ErrTag)},
		false, B(1), 78, join(B(1), third, B(2)), 2, "boot 1\n"})
}

func TestDump(t *testing.T) {
	b := join(B(1), E(0, ins(0, ' ', 64, 1)), E(1, ins(1, '~', 1, 1)), B(2), B(3), E(2, del(1, 64, 2)))
	dump := "boot 1\nins 0 0 32 64 1\nins 1 1 126 1 1\nboot 2\nboot 3\ndel 2 1 64 2\n"
	for _, tail := range [][]byte{nil, {1}, B(3), join(B(3), B(4))} {
		if got := doctor.Dump(join(b, tail)); got != dump {
			t.Errorf("P26.6: with %d bytes behind it: Dump = %q, want %q", len(tail), got, dump)
		}
	}
	wantLoad(t, dump, b)
}

// TestDumpTellsTheOriginal: a line tells the edit as it was made, not what it came to.
func TestDumpTellsTheOriginal(t *testing.T) {
	b := join(logA(), E(1, del(0, 1, 2)), E(1, ins(1, 'x', 2, 2)))
	dump := dumpA + "del 1 0 1 2\nins 1 1 120 2 2\n"
	if got := doctor.Dump(b); got != dump {
		t.Errorf("P26.6: Dump = %q, want %q", got, dump)
	}
	wantLoad(t, dump, b)
}

func TestPartTakesTheGoodParts(t *testing.T) {
	a := logA()
	other := E(2, ins(0, 'x', 9, 1))
	wantPart(t, "bytes behind both", join(a, []byte{1}), join(a, []byte{2, 3}), 3, true)
	wantPart(t, "what could be saved does not count", join(a[:10], []byte{1}, a[10:]), a, 1, true)
	wantPart(t, "two ends", join(a, B(2)), join(a, other), 3, false)
	wantPart(t, "two ends, one of which cannot stand", join(a, B(3)), join(a, other), 3, true)
	wantPart(t, "alike again behind a difference", join(B(1), B(2), B(3)), join(B(1), other[:0], E(0, ins(0, 'a', 1, 1)), B(2), B(3)), 1, false)
	wantPart(t, "a tag alone is another", join(a, E(1, ins(0, 'x', 3, 1))), join(a, E(2, ins(0, 'x', 3, 1))), 3, false)
	wantPart(t, "no item at all", []byte{1, 2}, []byte{3}, 0, true)
	wantPart(t, "nothing twice", nil, nil, 0, true)
}

// TestLoadTakes: what stands at the edge of its range.
func TestLoadTakes(t *testing.T) {
	wantLoad(t, "", nil)
	wantLoad(t, "boot 1\n", B(1))
	wantLoad(t, dumpA, logA())
	wantLoad(t, dumpA+"del 2 0 1 2\ndel 0 0 2 2\n", join(logA(), E(2, del(0, 1, 2)), E(0, del(0, 2, 2))))
	wantLoad(t, "boot 1\nins 0 0 32 1 1\nins 1 1 126 64 1\n", join(B(1), E(0, ins(0, 32, 1, 1)), E(1, ins(1, 126, 64, 1))))
}

// TestLoadRefuses: each way in which a line is none, and each in which an item cannot stand. The lines behind it are not looked at.
func TestLoadRefuses(t *testing.T) {
	for _, line := range []string{
		"", " ", "boot", "boot ", " boot 2", "boot 2 ", "boot  2", "boot 2 2", "boot\t2", "boot 2\r", "Boot 2", "BOOT 2", "boots 2", "boo 2", "boot2", "2 boot", "2",
		"boot 0", "boot 02", "boot +2", "boot -2", "boot 2.0", "boot 2e0", "boot 0x2", "boot 2_0", "boot x", "boot \x00", "boot 256", "boot 258", "boot 65538", "boot 4294967298", "boot 18446744073709551618", "boot 99999999999999999999999999", "boot ٢", "boot 2\xff", "\xff",
		"ins", "ins 2 0 97 1", "ins 2 0 97 1 2 0", "ins 2 0 a 1 2", "ins 2 0 97 1 2 ", "ins 2  0 97 1 2", "ins -2 0 97 1 2", "ins 2 -0 97 1 2", "ins 2 0 097 1 2", "ins 2 0 97 01 2", "ins 2 0 97 1 02", "ins 02 0 97 1 2", "ins 2 00 97 1 2",
		"ins 4097 0 97 1 2", "ins 2 4096 97 1 2", "ins 2 0 31 1 2", "ins 2 0 127 1 2", "ins 2 0 0 1 2", "ins 2 0 353 1 2", "ins 2 0 -159 1 2", "ins 2 0 97 0 1", "ins 2 0 97 65 1", "ins 2 0 97 1 0", "ins 2 0 97 1 65", "ins 65538 0 97 1 2", "ins 2 65536 97 1 2", "ins 2 0 97 257 2", "ins 2 0 97 1 258",
		"del", "del 2 0 1", "del 2 0 97 1 2", "del 2 0 0 1 2", "del 4097 0 1 2", "del 2 4096 1 2", "del 2 0 0 1", "del 2 0 65 1", "del 2 0 1 0", "del 2 0 1 65", "del 2 0 1 +2",
		"nop 2 1 2", "nop 2 0 1 2", "sub 2 0 1 2", "edit 2 0 97 1 2", " 2 0 1 2",
	} {
		for _, behind := range []string{"", "boot 2\n", "x\n", "boot 9"} {
			wantNoLoad(t, dumpA+line+"\n"+behind, 3, api.ErrLoad)
		}
		wantNoLoad(t, line+"\n", 0, api.ErrLoad)
	}
	for _, line := range []string{
		"boot 1", "boot 3", "boot 255", "ins 2 0 97 1 1", "del 2 0 1 1", "ins 2 0 97 1 3", "ins 3 0 97 1 2", "ins 4096 0 97 1 2", "ins 2 3 97 1 2", "ins 2 4095 97 1 2", "del 2 2 1 2", "del 0 1 1 2", "del 0 0 3 1",
	} {
		for _, behind := range []string{"", "boot 2\n", "x\n", "boot 9"} {
			wantNoLoad(t, dumpA+line+"\n"+behind, 3, api.ErrFits)
		}
	}
	wantNoLoad(t, "ins 0 0 97 1 1\n", 0, api.ErrFits)
	wantNoLoad(t, dumpA+"x\nboot 9\n", 3, api.ErrLoad)
}

// TestLoadWantsLineEnds: a line without its end is none, also where it could not stand.
func TestLoadWantsLineEnds(t *testing.T) {
	for _, line := range []string{"boot 2", "boot 9", "ins 2 0 97 1 2", "ins 2 0 97 1 1", "x", " ", "\r"} {
		wantNoLoad(t, dumpA+line, 3, api.ErrLoad)
	}
	wantNoLoad(t, "boot 9\nboot 1", 0, api.ErrFits)
}

func TestNothingIsChanged(t *testing.T) {
	r := dice(4)
	for range 200 {
		b := mixed(t, r)
		whole := append(bytes.Clone(b), 1, 2, 3, 4, 5, 6, 7, 8)
		kept := bytes.Clone(whole)
		ask(whole[:len(b)])
		doctor.Part(whole[:len(b)], whole[:len(b)/2])
		if !bytes.Equal(whole, kept) {
			t.Fatalf("P26.12: %s is changed", hexWord(b))
		}
	}
}

// TestListsAreNew: writing into an answer, or appending to it, changes neither what was handed in nor another answer.
func TestListsAreNew(t *testing.T) {
	r := dice(5)
	for range 200 {
		whole := append(mixed(t, r), 1, 2, 3, 4, 5, 6, 7, 8)
		b := whole[:len(whole)-8]
		kept := bytes.Clone(whole)
		want := ask(b)
		a := ask(b)
		text := want.dump
		loaded, _ := doctor.Load(text)
		for _, list := range [][]byte{a.good, a.salvage, loaded} {
			list = append(list, 255, 255, 255)
			for i := range list {
				list[i] = 255
			}
		}
		for _, list := range [][]byte{a.good, a.salvage, loaded} {
			for i := range list {
				list[i] = 255
			}
		}
		for i := range a.found {
			a.found[i] = api.Finding{At: -1}
		}
		if !bytes.Equal(whole, kept) || !ask(b).same(want) {
			t.Fatalf("P26.12: %s: an answer shares its memory", hexWord(b))
		}
		wantLoad(t, text, want.good)
	}
}
