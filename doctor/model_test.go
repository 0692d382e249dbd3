package doctor_test

import (
	"encoding/binary"
	"hash/crc32"
	"math/big"
	"regexp"
	"strings"
	"testing"

	"jotter/api"
	"jotter/book"
	"jotter/doctor"
)

// The model is the chapter's words said once more, in plain steps that are too slow for great logs: a place is looked at anew for each question, and an item stands if the whole list with it can be replayed.

// state is the items that were taken, and the edits among them.
type state struct {
	epoch int
	items []api.Item
	edits []api.Edit
}

// take takes an item, or tells why not.
func (s *state) take(x api.Item) api.Errno {
	if x.Kind == api.LBoot {
		if x.Epoch != s.epoch+1 {
			return api.ErrItem
		}
		s.epoch++
		s.items = append(s.items, x)
		return api.OK
	}
	if s.epoch == 0 {
		return api.ErrUnborn
	}
	edits := append(s.edits[:len(s.edits):len(s.edits)], api.Edit{Tag: x.Tag, Op: x.Op})
	if _, _, err := book.Replay(edits); err != nil {
		return api.Code(err)
	}
	s.edits = edits
	s.items = append(s.items, x)
	return api.OK
}

// modelRecord tells how many bytes the record at the front has, or why there is none.
func modelRecord(b []byte) (int, api.Errno) {
	if len(b) < 4 {
		return 0, api.ErrTorn
	}
	n, other := int(b[0])<<8|int(b[1]), int(b[2])<<8|int(b[3])
	if n+other != 65535 || n < 1 || n > 64 {
		return 0, api.ErrHead
	}
	if len(b) < n+8 {
		return 0, api.ErrTorn
	}
	if crc32.ChecksumIEEE(b[:n+4]) != binary.LittleEndian.Uint32(b[n+4:]) {
		return 0, api.ErrRecord
	}
	return n + 8, api.OK
}

// modelItem gives the item of a payload, or why it is none.
func modelItem(p []byte) (api.Item, api.Errno) {
	kind := p[0]
	if kind != 1 && kind != 2 {
		return api.Item{}, api.ErrMsgKind
	}
	if kind == 1 {
		if len(p) != 2 {
			return api.Item{}, api.ErrLength
		}
		if p[1] == 0 {
			return api.Item{}, api.ErrField
		}
		return api.Item{Kind: api.LBoot, Epoch: int(p[1])}, api.OK
	}
	if len(p) != 9 {
		return api.Item{}, api.ErrLength
	}
	x := api.Item{Kind: api.LEdit, Tag: int(p[1])<<8 | int(p[2])}
	x.Op = api.Op{Kind: int(p[3]), Pos: int(p[4])<<8 | int(p[5]), Ch: p[6], Client: int(p[7]), Seq: int(p[8])}
	right := x.Tag <= 4096 && x.Op.Client >= 1 && x.Op.Client <= 64 && x.Op.Seq >= 1 && x.Op.Seq <= 64
	switch x.Op.Kind {
	case 0:
		right = right && x.Op.Pos == 0 && x.Op.Ch == 0
	case 1:
		right = right && x.Op.Pos <= 4095 && x.Op.Ch >= 32 && x.Op.Ch <= 126
	case 2:
		right = right && x.Op.Pos <= 4095 && x.Op.Ch == 0
	default:
		right = false
	}
	if !right {
		return api.Item{}, api.ErrField
	}
	return x, api.OK
}

// modelOf gives what all calls must answer of at most MaxDisk bytes.
func modelOf(b []byte) all {
	m := all{sound: true}
	var s state
	end, ahead := 0, 0
	for at := 0; at < len(b); {
		f := api.Finding{At: at}
		size, why := modelRecord(b[at:])
		if why == api.OK {
			x, e := modelItem(b[at+4 : at+size-4])
			if e == api.OK {
				e = s.take(x)
			}
			why = e
			if e == api.OK && x.Kind == api.LBoot {
				f.Kind, f.Epoch = api.LBoot, x.Epoch
			} else if e == api.OK {
				f.Kind, f.Rev = api.LEdit, len(s.edits)
			}
		} else {
			for size = 1; at+size < len(b); size++ {
				if _, e := modelRecord(b[at+size:]); e == api.OK {
					break
				}
			}
		}
		f.Size, f.Err = size, why
		m.found = append(m.found, f)
		if why != api.OK {
			m.sound = false
		} else {
			m.salvage = append(m.salvage, b[at:at+size]...)
		}
		at += size
		if m.sound {
			end, ahead = at, len(s.items)
		}
	}
	m.good, m.lost, m.saved = b[:end], len(b)-end, len(s.items)-ahead
	for _, x := range s.items[:ahead] {
		m.dump += modelLine(x) + "\n"
	}
	return m
}

func modelLine(x api.Item) string {
	var words []string
	number := func(n int) { words = append(words, big.NewInt(int64(n)).String()) }
	if x.Kind == api.LBoot {
		words = append(words, "boot")
		number(x.Epoch)
	} else {
		words = append(words, []string{"?", "ins", "del"}[x.Op.Kind])
		number(x.Tag)
		number(x.Op.Pos)
		if x.Op.Kind == api.Insert {
			number(int(x.Op.Ch))
		}
		number(x.Op.Client)
		number(x.Op.Seq)
	}
	return strings.Join(words, " ")
}

var form = regexp.MustCompile(`^(?:boot(?: (?:0|[1-9][0-9]*)){1}|ins(?: (?:0|[1-9][0-9]*)){5}|del(?: (?:0|[1-9][0-9]*)){4})$`)

// modelRead gives the item of a line, if it is one: its words' form, then each number's bounds.
func modelRead(line string) (api.Item, bool) {
	if !form.MatchString(line) {
		return api.Item{}, false
	}
	words := strings.Split(line, " ")
	bounds := map[string][][2]int64{
		"boot": {{1, 255}},
		"ins":  {{0, 4096}, {0, 4095}, {32, 126}, {1, 64}, {1, 64}},
		"del":  {{0, 4096}, {0, 4095}, {1, 64}, {1, 64}},
	}[words[0]]
	var n []int
	for i, w := range words[1:] {
		v, _ := new(big.Int).SetString(w, 10)
		if v.Cmp(big.NewInt(bounds[i][0])) < 0 || v.Cmp(big.NewInt(bounds[i][1])) > 0 {
			return api.Item{}, false
		}
		n = append(n, int(v.Int64()))
	}
	switch words[0] {
	case "boot":
		return api.Item{Kind: api.LBoot, Epoch: n[0]}, true
	case "ins":
		return api.Item{Kind: api.LEdit, Tag: n[0], Op: ins(n[1], byte(n[2]), n[3], n[4])}, true
	}
	return api.Item{Kind: api.LEdit, Tag: n[0], Op: del(n[1], n[2], n[3])}, true
}

// modelLoad gives what Load must answer: the bytes, or the line and the number of its error.
func modelLoad(text string) ([]byte, int, api.Errno) {
	var s state
	var b []byte
	for line := 0; text != ""; line++ {
		words, rest, ended := strings.Cut(text, "\n")
		x, ok := modelRead(words)
		if !ok || !ended {
			return nil, line, api.ErrLoad
		}
		if s.take(x) != api.OK {
			return nil, line, api.ErrFits
		}
		if x.Kind == api.LBoot {
			b = append(b, B(x.Epoch)...)
		} else {
			b = append(b, E(x.Tag, x.Op)...)
		}
		text = rest
	}
	return b, -1, api.OK
}

func wantModelLoad(t *testing.T, text string) api.Errno {
	t.Helper()
	b, line, e := modelLoad(text)
	if e == api.OK {
		wantLoad(t, text, b)
	} else {
		wantNoLoad(t, text, line, e)
	}
	return e
}

// TestModelOfBytes holds all calls against the model, over bytes that are nearly logs.
func TestModelOfBytes(t *testing.T) {
	r := dice(1)
	reasons := map[api.Errno]int{}
	saved := 0
	for range 3000 {
		b := mixed(t, r)
		want := modelOf(b)
		wantAll(t, hexWord(b), b, want)
		for _, f := range want.found {
			reasons[f.Err]++
		}
		saved += want.saved
		if t.Failed() {
			return
		}
	}
	for _, e := range []api.Errno{api.OK, api.ErrTorn, api.ErrHead, api.ErrRecord, api.ErrMsgKind, api.ErrLength, api.ErrField, api.ErrItem, api.ErrUnborn, api.ErrNoEdit, api.ErrDone, api.ErrTurn, api.ErrTag, api.ErrPlace} {
		if reasons[e] < 10 {
			t.Errorf("the bytes tell too little: the reason %d came %d times", e, reasons[e])
		}
	}
	if saved < 1000 {
		t.Errorf("the bytes tell too little: %d items were saved", saved)
	}
}

// TestModelOfPart holds Part against the model, over pairs of logs that begin alike.
func TestModelOfPart(t *testing.T) {
	r := dice(2)
	told := map[bool]int{}
	for range 1500 {
		a := mixed(t, r)
		b := a
		switch r.IntN(4) {
		case 0:
			b = mixed(t, r)
		case 1:
			b = a[:r.IntN(len(a)+1)]
		case 2:
			b = join(a[:r.IntN(len(a)+1)], mixed(t, r))
		default:
			if len(a) > 0 {
				b = changed(a, r.IntN(len(a)), 1)
			}
		}
		n, part := modelPart(modelOf(a).dump, modelOf(b).dump)
		wantPart(t, hexWord(a)+" and "+hexWord(b), a, b, n, part)
		told[part]++
	}
	if told[true] < 100 || told[false] < 100 {
		t.Errorf("the logs tell too little: %v", told)
	}
}

// modelPart counts the lines that two dumps have in common: items are the same just if their lines are.
func modelPart(a, b string) (int, bool) {
	n := 0
	for {
		x, restA, moreA := strings.Cut(a, "\n")
		y, restB, moreB := strings.Cut(b, "\n")
		if !moreA || !moreB {
			return n, true
		}
		if x != y {
			return n, false
		}
		n, a, b = n+1, restA, restB
	}
}

// TestModelOfTexts holds Load against the model, over texts that are nearly dumps.
func TestModelOfTexts(t *testing.T) {
	r := dice(3)
	told := map[api.Errno]int{}
	parts := []string{"\n", "\n", " ", "0", "1", "2", "6", "9", "97", "-", "+", "boot", "ins", "del", "b", "\t", "\r", "\x00", "\xff", "١", "_", "0x1"}
	for range 8000 {
		text := doctor.Dump(written(t, r, 1+r.IntN(3), r.IntN(8)))
		for range r.IntN(3) {
			at := r.IntN(len(text) + 1)
			end := at + r.IntN(min(len(text)-at, 2)+1)
			text = text[:at] + parts[r.IntN(len(parts))] + text[end:]
		}
		told[wantModelLoad(t, text)]++
		if t.Failed() {
			return
		}
	}
	for _, e := range []api.Errno{api.OK, api.ErrLoad, api.ErrFits} {
		if told[e] < 100 {
			t.Errorf("the texts tell too little: %d came %d times", e, told[e])
		}
	}
}

// TestOneCharacter changes, adds and takes out each one character of a text.
func TestOneCharacter(t *testing.T) {
	text := "boot 1\nins 0 0 97 1 1\nins 0 0 126 10 1\nboot 2\ndel 2 1 1 2\ndel 3 0 64 1\n"
	if e := wantModelLoad(t, text); e != api.OK {
		t.Fatalf("the text is refused: %d", e)
	}
	for at := range len(text) + 1 {
		for ch := range 256 {
			wantModelLoad(t, text[:at]+string([]byte{byte(ch)})+text[at:])
			if at < len(text) {
				wantModelLoad(t, text[:at]+string([]byte{byte(ch)})+text[at+1:])
			}
		}
		wantModelLoad(t, text[:at])
		wantModelLoad(t, text[at:])
		if at < len(text) {
			wantModelLoad(t, text[:at]+text[at+1:])
		}
	}
}
