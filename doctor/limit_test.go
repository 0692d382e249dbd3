package doctor_test

import (
	"bytes"
	"strings"
	"testing"

	"jotter/api"
	"jotter/doctor"
)

// greatest gives a log of all boots and all edits that there can be, the clients by turns; lag: how many records each is behind.
func greatest(lag int) []byte {
	var payloads [][]byte
	for k := range api.MaxLog {
		if k < api.MaxEpoch {
			payloads = append(payloads, bootOf(k+1))
		}
		payloads = append(payloads, editOf(max(0, k-lag), ins(0, byte(32+k%95), k%api.MaxClients+1, k/api.MaxClients+1)))
	}
	return recordOf(payloads...)
}

// TestGreatestLogs: a log that is as full as it can be, and what comes behind it on a full disk.
func TestGreatestLogs(t *testing.T) {
	for _, lag := range []int{0, 63, 300} {
		b := greatest(lag)
		if list := doctor.Look(b); len(list) != api.MaxEpoch+api.MaxLog || list[len(list)-1] != editAt(len(b)-17, api.MaxLog) {
			t.Fatalf("P26.2: lag %d: %d findings, the last %s", lag, len(list), findingsWord(list[len(list)-1:]))
		}
		if !doctor.Sound(b) {
			t.Fatalf("P26.3: lag %d: not sound", lag)
		}
		text := doctor.Dump(b)
		wantLoad(t, text, b)
		wantNoLoad(t, text+"ins 0 0 97 1 1\n", api.MaxEpoch+api.MaxLog, api.ErrFits)
		wantNoLoad(t, text+"boot 255\n", api.MaxEpoch+api.MaxLog, api.ErrFits)
		wantNoLoad(t, text+"boot 256\n", api.MaxEpoch+api.MaxLog, api.ErrLoad)
		wantPart(t, "the greatest log and its beginning", b, b[:len(b)-1], api.MaxEpoch+api.MaxLog-1, true)
	}
}

// TestNothingBehindTheGreatest: nothing can stand behind the greatest log, and it is saved whole.
func TestNothingBehindTheGreatest(t *testing.T) {
	b := greatest(0)
	full := bytes.Clone(b)
	for k := 0; len(full)+17 <= api.MaxDisk; k++ {
		full = append(full, E(api.MaxLog, ins(0, 'x', k%api.MaxClients+1, api.MaxEdits))...)
	}
	list := doctor.Look(full)
	for _, f := range list[api.MaxEpoch+api.MaxLog:] {
		if f != noneAt(f.At, 17, api.ErrDone) {
			t.Fatalf("P26.2: behind the greatest log: %s", findingsWord([]api.Finding{f}))
		}
	}
	saved, more := doctor.Salvage(full)
	if !bytes.Equal(saved, b) || more != 0 {
		t.Fatalf("P26.5: behind the greatest log: Salvage gives %d bytes, %d more items", len(saved), more)
	}
	wantLook(t, "a boot behind epoch 255", join(recordOf(allBoots()...), B(255), E(0, ins(0, 'a', 1, 1)))[2540:], noneAt(0, 10, api.ErrItem), noneAt(10, 10, api.ErrItem), noneAt(20, 17, api.ErrUnborn))
}

func allBoots() [][]byte {
	var payloads [][]byte
	for k := range api.MaxEpoch {
		payloads = append(payloads, bootOf(k+1))
	}
	return payloads
}

// TestBehindTheLastBoot: behind epoch 255 no boot stands any more, edits do.
func TestBehindTheLastBoot(t *testing.T) {
	b := recordOf(allBoots()...)
	for _, epoch := range []int{1, 254, 255} {
		list := doctor.Look(join(b, B(epoch), E(0, ins(0, 'a', 1, 1))))
		if len(list) != 257 || list[255] != noneAt(2550, 10, api.ErrItem) || list[256] != editAt(2560, 1) {
			t.Fatalf("P26.2: a boot of epoch %d behind the last: %s", epoch, findingsWord(list[250:]))
		}
	}
}

// TestFullDisks: as many bytes as a disk has, of kinds that are slow to look at.
func TestFullDisks(t *testing.T) {
	fill := func(part []byte) []byte { return bytes.Repeat(part, api.MaxDisk/len(part)+1)[:api.MaxDisk] }
	wantLook(t, "heads of records that are not there", fill([]byte{0, 64, 255, 191}), noneAt(0, api.MaxDisk, api.ErrRecord))
	list := doctor.Look(fill(recordOf([]byte{7})))
	if len(list) != api.MaxDisk/9+1 || list[0] != noneAt(0, 9, api.ErrMsgKind) || list[len(list)-1] != noneAt(api.MaxDisk/9*9, api.MaxDisk%9, api.ErrTorn) {
		t.Errorf("P26.2: short records of no item: %d findings", len(list))
	}
	list = doctor.Look(join(B(1), fill(E(0, ins(0, 'a', 1, 1)))[:api.MaxDisk-10]))
	if len(list) != (api.MaxDisk-10)/17+2 || list[1] != editAt(10, 1) || list[2] != noneAt(27, 17, api.ErrDone) {
		t.Errorf("P26.2: one edit many times: %d findings", len(list))
	}
	far := join(make([]byte, api.MaxDisk-10), B(1))
	wantLook(t, "a boot at the end of a full disk", far, noneAt(0, api.MaxDisk-10, api.ErrHead), bootAt(api.MaxDisk-10, 1))
	if saved, more := doctor.Salvage(far); !bytes.Equal(saved, B(1)) || more != 1 {
		t.Errorf("P26.5: a boot at the end of a full disk: Salvage = %s, %d", hexWord(saved), more)
	}
}

// TestLongTexts: texts of many lines, and lines of many characters.
func TestLongTexts(t *testing.T) {
	wantNoLoad(t, strings.Repeat("\n", 1<<22), 0, api.ErrLoad)
	wantNoLoad(t, strings.Repeat("boot 1\n", 1<<20), 1, api.ErrFits)
	for _, part := range []string{" ", "0", "9", "boot ", "\xff", "é", "x"} {
		long := strings.Repeat(part, 1<<20)
		for _, line := range []string{long, long + "\n", "boot " + long + "\n", "boot 1 " + long + "\n", "ins 0 0 97 1 " + long + "\n"} {
			wantNoLoad(t, line, 0, api.ErrLoad)
			wantNoLoad(t, dumpA+line, 3, api.ErrLoad)
		}
	}
}
