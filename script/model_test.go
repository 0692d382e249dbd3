package script_test

import (
	"encoding/hex"
	"fmt"
	"math/rand/v2"
	"regexp"
	"strconv"
	"strings"
	"testing"

	"jotter/api"
	"jotter/script"
)

// rows holds the chapter's table as it stands there: the verb, then each word with its range; c is a character, h are bytes.
var rows = []string{
	api.EInsert:  "insert S:1:64 A:0:4095 c:32:126",
	api.EDelete:  "delete S:1:64 A:0:4095",
	api.ETick:    "tick S:0:64",
	api.EDeliver: "deliver A:0:2047",
	api.EDrop:    "drop A:0:2047",
	api.EDouble:  "double A:0:2047",
	api.EFlip:    "flip A:0:2047 B:0:63 C:1:255",
	api.EAll:     "all",
	api.ERound:   "round",
	api.ECrash:   "crash A:0:262144 B:0:262144 C:0:255",
	api.EBoot:    "boot",
	api.EStumble: "stumble A:0:262144 B:0:262144 C:0:255",
	api.EForge:   "forge S:0:64 h:0:64",
}

var (
	aNumber = regexp.MustCompile(`\A(0|[1-9][0-9]{0,5})\z`)
	aHex    = regexp.MustCompile(`\A(-|([0-9a-f][0-9a-f])+)\z`)
	aHeader = regexp.MustCompile(`\Aclients ([1-9]|[1-5][0-9]|6[0-4])\z`)
)

// modelLine is P15.1, point by point.
func modelLine(text string) api.Entry {
	words := strings.Split(text, " ")
	kind := 0
	for k, row := range rows {
		if k > 0 && strings.Split(row, " ")[0] == words[0] {
			kind = k
		}
	}
	if kind == 0 {
		return api.Entry{Err: api.ErrVerb}
	}
	if kind == api.EInsert && len(words) > 4 {
		words = append(words[:3:3], strings.Join(words[3:], " "))
	}
	wants := strings.Split(rows[kind], " ")
	if len(words) != len(wants) {
		return bad(kind, api.ErrForm)
	}
	for i, word := range words[1:] {
		switch want := wants[1+i]; {
		case want[0] == 'h' && !aHex.MatchString(word):
			return bad(kind, api.ErrHex)
		case want[0] == 'c' && len(word) != 1:
			return bad(kind, api.ErrForm)
		case want[0] != 'h' && want[0] != 'c' && !aNumber.MatchString(word):
			return bad(kind, api.ErrForm)
		}
	}
	e := api.Entry{Kind: kind}
	for i, word := range words[1:] {
		if !modelWord(&e, wants[1+i], word) {
			return bad(kind, api.ErrRange)
		}
	}
	return e
}

// modelWord lays a word of the right form into an entry, and tells whether it is in its range.
func modelWord(e *api.Entry, want, word string) bool {
	ends := strings.Split(want, ":")
	least, _ := strconv.Atoi(ends[1])
	most, _ := strconv.Atoi(ends[2])
	n, _ := strconv.Atoi(word)
	switch ends[0] {
	case "S":
		e.Site = n
	case "A":
		e.A = n
	case "B":
		e.B = n
	case "C":
		e.C = n
	case "c":
		e.Ch, n = word[0], int(word[0])
	case "h":
		e.Bytes, _ = hex.DecodeString(strings.TrimPrefix(word, "-"))
		n = len(e.Bytes)
	}
	return least <= n && n <= most
}

// modelParse is P15.2; At is -1 where nothing is refused.
func modelParse(text string) (api.Plan, int, api.Errno) {
	if len(text) > 65536 {
		return api.Plan{}, 65536, api.ErrScript
	}
	lines := strings.Split(text, "\n")
	if lines[len(lines)-1] == "" {
		lines = lines[:len(lines)-1]
	}
	if len(lines) == 0 || !aHeader.MatchString(lines[0]) {
		return api.Plan{}, 0, api.ErrHeader
	}
	if len(lines) > 1025 {
		return api.Plan{}, 1024, api.ErrMany
	}
	var p api.Plan
	fmt.Sscanf(lines[0], "clients %d", &p.Clients)
	for _, line := range lines[1:] {
		p.Entries = append(p.Entries, modelLine(line))
	}
	return p, -1, api.OK
}

// modelFits tells whether an entry's numbers are what its row says, without a look at any line.
func modelFits(e api.Entry) bool {
	if e.Err != api.OK || e.Kind < 1 || e.Kind > 13 {
		return false
	}
	left := map[string]int{"S": e.Site, "A": e.A, "B": e.B, "C": e.C, "c": int(e.Ch), "h": len(e.Bytes)}
	for _, want := range strings.Split(rows[e.Kind], " ")[1:] {
		ends := strings.Split(want, ":")
		least, _ := strconv.Atoi(ends[1])
		most, _ := strconv.Atoi(ends[2])
		if n := left[ends[0]]; n < least || n > most {
			return false
		}
		delete(left, ends[0])
	}
	for _, n := range left {
		if n != 0 {
			return false
		}
	}
	return true
}

// modelPrint is P15.3.
func modelPrint(p api.Plan) (string, int, api.Errno) {
	if p.Clients < 1 || p.Clients > 64 {
		return "", 0, api.ErrHeader
	}
	if len(p.Entries) > 1024 {
		return "", 1024, api.ErrMany
	}
	var text strings.Builder
	fmt.Fprintf(&text, "clients %d\n", p.Clients)
	for i, e := range p.Entries {
		if !modelFits(e) {
			return "", i, api.ErrForm
		}
		h := fmt.Sprintf("%x", e.Bytes)
		if h == "" {
			h = "-"
		}
		row := rows[e.Kind]
		for _, w := range strings.Split(row, " ")[1:] {
			told := map[string]string{"S": fmt.Sprint(e.Site), "A": fmt.Sprint(e.A), "B": fmt.Sprint(e.B), "C": fmt.Sprint(e.C), "c": string(rune(e.Ch)), "h": h}
			row = strings.Replace(row, w, told[w[:1]], 1)
		}
		text.WriteString(row + "\n")
	}
	if text.Len() > 65536 {
		return "", 65536, api.ErrScript
	}
	return text.String(), -1, api.OK
}

// wantAsModel holds a line against the model, and counts what it came to.
func wantAsModel(t *testing.T, line string, tally map[[2]int]int) {
	t.Helper()
	want := modelLine(line)
	wantLine(t, line, want)
	tally[[2]int{want.Kind, int(want.Err)}]++
}

// pool holds words at the edges of all forms and ranges.
var pool = []string{"", "0", "1", "2", "00", "01", "9", "10", "63", "64", "65", "99", "255", "256", "2047", "2048", "4095", "4096", "262144", "262145", "999999", "1000000", "-", "-1", "a", "ab", "ff", "0f", "A", "~", "\x7f", "\n", "\xff", "é"}

// TestAllLines: every verb with up to three words of the pool, in all orders.
func TestAllLines(t *testing.T) {
	tally := map[[2]int]int{}
	verbs := []string{"", "x", "clients", "All"}
	for _, row := range rows[1:] {
		verbs = append(verbs, strings.Split(row, " ")[0])
	}
	for _, verb := range verbs {
		wantAsModel(t, verb, tally)
		for _, a := range pool {
			wantAsModel(t, verb+" "+a, tally)
			for _, b := range pool {
				wantAsModel(t, verb+" "+a+" "+b, tally)
				for _, c := range pool {
					wantAsModel(t, verb+" "+a+" "+b+" "+c, tally)
				}
				wantAsModel(t, verb+" "+a+" "+b+" 1 1", tally)
				wantAsModel(t, verb+" "+a+" "+b+"   ", tally)
			}
		}
	}
	for kind := 1; kind <= 13; kind++ {
		wantSome(t, tally, kind, api.OK, api.ErrForm)
		if strings.Contains(rows[kind], " ") {
			wantSome(t, tally, kind, api.ErrRange)
		}
	}
	wantSome(t, tally, api.EForge, api.ErrHex)
	wantSome(t, tally, api.EBad, api.ErrVerb)
}

// wantSome ends the test unless lines of that kind came to each of these.
func wantSome(t *testing.T, tally map[[2]int]int, kind int, errs ...api.Errno) {
	t.Helper()
	for _, e := range errs {
		if tally[[2]int{kind, int(e)}] == 0 {
			t.Fatalf("no line of kind %d came to %d", kind, e)
		}
	}
}

// someLine gives a line that is often right, and often nearly so.
func someLine(r *rand.Rand) string {
	row := strings.Split(rows[1+r.IntN(13)], " ")
	line := row[0]
	for _, want := range row[1:] {
		ends := strings.Split(want, ":")
		least, _ := strconv.Atoi(ends[1])
		most, _ := strconv.Atoi(ends[2])
		n := least + r.IntN(most-least+1)
		switch word := strconv.Itoa(n); {
		case r.IntN(20) == 0:
			line += " " + pick(r, pool)
		case ends[0] == "c":
			line += " " + string(rune(n))
		case ends[0] == "h" && n == 0:
			line += " -"
		case ends[0] == "h":
			line += " " + hex.EncodeToString(noise(r, n))
		default:
			line += " " + word
		}
	}
	return bent(r, line)
}

// bent changes a line at one place, now and then.
func bent(r *rand.Rand, line string) string {
	at := r.IntN(len(line) + 1)
	switch r.IntN(12) {
	case 0:
		return line[:at] + " " + line[at:]
	case 1:
		return line[:at] + string(noise(r, 1)) + line[at:]
	case 2:
		return line[:at]
	case 3:
		return line[:at] + strings.ToUpper(line[at:])
	}
	return line
}

func noise(r *rand.Rand, n int) []byte {
	b := make([]byte, n)
	for i := range b {
		b[i] = byte(r.Uint32())
	}
	return b
}

// TestSomeLines: lines right, bent and wild, beside the model.
func TestSomeLines(t *testing.T) {
	r := dice(1)
	tally := map[[2]int]int{}
	for range 200000 {
		wantAsModel(t, someLine(r), tally)
	}
	for range 20000 {
		wantAsModel(t, string(noise(r, r.IntN(12))), tally)
	}
	for kind := 1; kind <= 13; kind++ {
		if tally[[2]int{kind, 0}] < 5000 {
			t.Fatalf("only %d lines of kind %d were taken", tally[[2]int{kind, 0}], kind)
		}
	}
}

// someText gives a script, often of a right header, with ends of all sorts.
func someText(r *rand.Rand) string {
	text := "clients " + strconv.Itoa(1+r.IntN(64))
	if r.IntN(8) == 0 {
		text = bent(r, "clients "+pick(r, pool))
	}
	for range r.IntN(12) {
		text += pick(r, []string{"\n", "\n", "\n", "\n", "\n", "\n\n", "\r\n", "\r", "\u2028", "\xe2\n", "\xc3\n"}) + someLine(r)
	}
	return text + pick(r, []string{"", "\n", "\n\n", " ", "\r\n", "\xff"})
}

// TestSomeTexts: Parse beside the model; what it takes whole is printed again, as it was.
func TestSomeTexts(t *testing.T) {
	r := dice(2)
	taken, refused, whole := 0, 0, 0
	for range 60000 {
		text := someText(r)
		want, at, e := modelParse(text)
		if e != api.OK {
			wantUnread(t, text, at, e)
			refused++
			continue
		}
		wantParse(t, text, want)
		taken++
		if wantPrintedAgain(t, text) {
			whole++
		}
	}
	if taken < 10000 || refused < 3000 || whole < 2000 {
		t.Fatalf("%d texts were taken, %d refused, %d printed", taken, refused, whole)
	}
}

// wantPrintedAgain: if no entry of a text is refused, Print gives the text, with a byte 10 at its end.
func wantPrintedAgain(t *testing.T, text string) bool {
	t.Helper()
	p, err := script.Parse(text)
	if err != nil {
		t.Fatalf("P15.2: Parse(%s): %v", quote(text), err)
	}
	for i, e := range p.Entries {
		if e.Err != api.OK {
			wantUnprinted(t, p, i, api.ErrForm)
			return false
		}
	}
	wantPrint(t, p, strings.TrimSuffix(text, "\n")+"\n")
	return true
}

// someEntry gives an entry that is right, or whose fields are.
func someEntry(r *rand.Rand) api.Entry {
	for {
		if e := modelLine(someLine(r)); e.Err == api.OK {
			return e
		}
	}
}

// shaken changes an entry, now and then, in one field.
func shaken(r *rand.Rand, e api.Entry) api.Entry {
	n := pick(r, []int{-1 << 63, -1, 0, 1, 2, 31, 32, 63, 64, 65, 126, 127, 255, 256, 2047, 2048, 4095, 4096, 262144, 262145, 1<<63 - 1})
	switch r.IntN(24) {
	case 0:
		e.Kind = n % 16
	case 1:
		e.Site = n
	case 2:
		e.A = n
	case 3:
		e.B = n
	case 4:
		e.C = n
	case 5:
		e.Ch = byte(n)
	case 6:
		e.Bytes = noise(r, min(max(n, 0), 70))
	case 7:
		e.Err = api.Errno(n)
	}
	return e
}

// TestSomePlans: Print beside the model; what it gives is read as the plan again.
func TestSomePlans(t *testing.T) {
	r := dice(3)
	printed, refused := 0, 0
	for range 60000 {
		p := plan(1 + r.IntN(64))
		if r.IntN(16) == 0 {
			p.Clients = pick(r, []int{-1, 0, 65, 1 << 40})
		}
		for range r.IntN(6) {
			p.Entries = append(p.Entries, shaken(r, someEntry(r)))
		}
		want, at, e := modelPrint(p)
		if e != api.OK {
			wantUnprinted(t, p, at, e)
			refused++
			continue
		}
		wantPrint(t, p, want)
		wantParse(t, want, p)
		printed++
	}
	if printed < 10000 || refused < 10000 {
		t.Fatalf("%d plans were printed, %d refused", printed, refused)
	}
}

// TestLongPlans: plans near the limits of entries and bytes, beside the model.
func TestLongPlans(t *testing.T) {
	r := dice(4)
	tally := map[api.Errno]int{}
	for range 300 {
		p := plan(1 + r.IntN(64))
		forge := api.Entry{Kind: api.EForge, Bytes: noise(r, 55+r.IntN(10))}
		for range 470 + r.IntN(40) {
			p.Entries = append(p.Entries, forge)
		}
		for range pick(r, []int{0, 10, 530, 545}) {
			p.Entries = append(p.Entries, someEntry(r))
		}
		if r.IntN(4) == 0 {
			p.Entries[r.IntN(len(p.Entries))].Err = api.ErrForm
		}
		want, at, e := modelPrint(p)
		tally[e]++
		if e != api.OK {
			wantUnprinted(t, p, at, e)
			continue
		}
		wantPrint(t, p, want)
		wantParse(t, want, p)
	}
	for _, e := range []api.Errno{api.OK, api.ErrMany, api.ErrForm, api.ErrScript} {
		if tally[e] < 10 {
			t.Fatalf("only %d plans came to %d", tally[e], e)
		}
	}
}
