package script_test

import (
	"slices"
	"strconv"
	"strings"
	"testing"

	"jotter/api"
	"jotter/script"
)

// TestExamples: the chapter's examples, in its order.
func TestExamples(t *testing.T) {
	one := plan(2, api.Entry{Kind: api.EInsert, Site: 1, A: 0, Ch: 97}, api.Entry{Kind: api.ETick, Site: 1}, api.Entry{Kind: api.EAll})
	wantParse(t, "clients 2\ninsert 1 0 a\ntick 1\nall\n", one)
	wantParse(t, "clients 2\ninsert 1 0 a\ntick 1\nall", one)

	wantLine(t, "insert 1 0  ", api.Entry{Kind: api.EInsert, Site: 1, Ch: 32})
	wantLine(t, "insert 1 0 ", bad(api.EInsert, api.ErrForm))
	wantLine(t, "insert 1 0", bad(api.EInsert, api.ErrForm))
	wantLine(t, "insert 1 0 ab", bad(api.EInsert, api.ErrForm))
	wantLine(t, "insert 0 9999 ab", bad(api.EInsert, api.ErrForm))
	wantLine(t, "insert 0 9999 a", bad(api.EInsert, api.ErrRange))

	wantLine(t, "", bad(api.EBad, api.ErrVerb))
	wantLine(t, " all", bad(api.EBad, api.ErrVerb))
	wantLine(t, "all ", bad(api.EAll, api.ErrForm))
	wantLine(t, "ALL", bad(api.EBad, api.ErrVerb))

	wantLine(t, "deliver 007", bad(api.EDeliver, api.ErrForm))
	wantLine(t, "deliver 2048", bad(api.EDeliver, api.ErrRange))
	wantLine(t, "deliver 1234567", bad(api.EDeliver, api.ErrForm))
	wantLine(t, "deliver -1", bad(api.EDeliver, api.ErrForm))
	wantLine(t, "deliver 0", api.Entry{Kind: api.EDeliver})

	wantLine(t, "flip 0 3 0", bad(api.EFlip, api.ErrRange))
	wantLine(t, "crash 0 0 0", api.Entry{Kind: api.ECrash})
	wantLine(t, "crash 262145 0 0", bad(api.ECrash, api.ErrRange))

	wantLine(t, "forge 0 04010", bad(api.EForge, api.ErrHex))
	wantLine(t, "forge 0 040103AF", bad(api.EForge, api.ErrHex))
	wantLine(t, "forge 0 -", api.Entry{Kind: api.EForge})
	wantLine(t, "forge 0 ", bad(api.EForge, api.ErrHex))
	wantLine(t, "forge 65 ff", bad(api.EForge, api.ErrRange))
	wantLine(t, "forge x zz", bad(api.EForge, api.ErrForm))
	wantLine(t, "forge 65 zz", bad(api.EForge, api.ErrHex))

	for _, text := range []string{"", "client 2", "clients 65", "clients 2 ", "\nclients 2"} {
		wantUnread(t, text, 0, api.ErrHeader)
	}
	wantParse(t, "clients 1\n\n", plan(1, bad(api.EBad, api.ErrVerb)))

	wantUnprinted(t, plan(1, api.Entry{Kind: api.ETick, A: 3}), 0, api.ErrForm)
}

// each holds one entry of every kind, with its line, each field at another number.
var each = []struct {
	line  string
	entry api.Entry
}{
	{"insert 1 2 x", api.Entry{Kind: api.EInsert, Site: 1, A: 2, Ch: 'x'}},
	{"delete 3 4", api.Entry{Kind: api.EDelete, Site: 3, A: 4}},
	{"tick 5", api.Entry{Kind: api.ETick, Site: 5}},
	{"deliver 6", api.Entry{Kind: api.EDeliver, A: 6}},
	{"drop 7", api.Entry{Kind: api.EDrop, A: 7}},
	{"double 8", api.Entry{Kind: api.EDouble, A: 8}},
	{"flip 9 10 11", api.Entry{Kind: api.EFlip, A: 9, B: 10, C: 11}},
	{"all", api.Entry{Kind: api.EAll}},
	{"round", api.Entry{Kind: api.ERound}},
	{"crash 12 13 14", api.Entry{Kind: api.ECrash, A: 12, B: 13, C: 14}},
	{"boot", api.Entry{Kind: api.EBoot}},
	{"stumble 15 16 17", api.Entry{Kind: api.EStumble, A: 15, B: 16, C: 17}},
	{"forge 18 0123456789abcdef", api.Entry{Kind: api.EForge, Site: 18, Bytes: []byte{0x01, 0x23, 0x45, 0x67, 0x89, 0xab, 0xcd, 0xef}}},
}

// TestEachKind: every kind has its verb, its words and its fields, read and printed.
func TestEachKind(t *testing.T) {
	for i, c := range each {
		if c.entry.Kind != i+1 {
			t.Fatalf("entry %d is of kind %d", i, c.entry.Kind)
		}
		wantLine(t, c.line, c.entry)
		wantPrint(t, plan(1, c.entry), "clients 1\n"+c.line+"\n")
		verb := strings.Fields(c.line)[0]
		for _, wrong := range []string{verb + verb, verb[1:], verb[:len(verb)-1], strings.ToUpper(verb), strings.ToUpper(verb[:1]) + verb[1:], "\t" + verb, verb + "\t", verb + "\r", verb + "\n", "\n" + verb, verb + "\x00", "x", "clients"} {
			wantLine(t, wrong+strings.TrimPrefix(c.line, verb), bad(api.EBad, api.ErrVerb))
		}
		wantLine(t, " "+c.line, bad(api.EBad, api.ErrVerb))
	}
}

// TestSpaces: a space more or less makes another number of words, or a word without form.
func TestSpaces(t *testing.T) {
	for _, c := range each {
		words := strings.Split(c.line, " ")
		for at := 1; at < len(words); at++ {
			wide := strings.Join(words[:at], " ") + "  " + strings.Join(words[at:], " ")
			wantLine(t, wide, bad(c.entry.Kind, api.ErrForm))
			wantLine(t, strings.Join(words[:at], " "), bad(c.entry.Kind, api.ErrForm))
		}
		wantLine(t, c.line+" ", bad(c.entry.Kind, api.ErrForm))
		wantLine(t, c.line+" 1", bad(c.entry.Kind, api.ErrForm))
		wantLine(t, c.line+strings.Repeat(" ", 100000), bad(c.entry.Kind, api.ErrForm))
	}
	wantLine(t, "insert 1 2   ", bad(api.EInsert, api.ErrForm))
	wantLine(t, "insert 1 2 \t", bad(api.EInsert, api.ErrRange))
	wantLine(t, "insert   x", bad(api.EInsert, api.ErrForm))
	wantLine(t, "insert    ", bad(api.EInsert, api.ErrForm))
}

// TestRanges: each number at both of its ends, and one beyond.
func TestRanges(t *testing.T) {
	for _, c := range []struct {
		front, back string
		kind        int
		least, most int
		set         func(e *api.Entry, n int)
	}{
		{"insert ", " 0 a", api.EInsert, 1, 64, setSite},
		{"insert 1 ", " a", api.EInsert, 0, 4095, setA},
		{"delete ", " 0", api.EDelete, 1, 64, setSite},
		{"delete 1 ", "", api.EDelete, 0, 4095, setA},
		{"tick ", "", api.ETick, 0, 64, setSite},
		{"deliver ", "", api.EDeliver, 0, 2047, setA},
		{"drop ", "", api.EDrop, 0, 2047, setA},
		{"double ", "", api.EDouble, 0, 2047, setA},
		{"flip ", " 0 1", api.EFlip, 0, 2047, setA},
		{"flip 0 ", " 1", api.EFlip, 0, 63, setB},
		{"flip 0 0 ", "", api.EFlip, 1, 255, setC},
		{"crash ", " 0 0", api.ECrash, 0, 262144, setA},
		{"crash 0 ", " 0", api.ECrash, 0, 262144, setB},
		{"crash 0 0 ", "", api.ECrash, 0, 255, setC},
		{"stumble ", " 0 0", api.EStumble, 0, 262144, setA},
		{"stumble 0 ", " 0", api.EStumble, 0, 262144, setB},
		{"stumble 0 0 ", "", api.EStumble, 0, 255, setC},
		{"forge ", " -", api.EForge, 0, 64, setSite},
	} {
		base := script.Line(c.front + strconv.Itoa(c.most) + c.back)
		if base.Err != api.OK {
			t.Fatalf("P15.1: Line(%q) = %+v", c.front+strconv.Itoa(c.most)+c.back, base)
		}
		for _, n := range []int{c.least - 1, c.least, c.least + 1, c.most - 1, c.most, c.most + 1, 999999} {
			want := base
			c.set(&want, n)
			line := c.front + strconv.Itoa(n) + c.back
			switch {
			case n < 0:
				wantLine(t, line, bad(c.kind, api.ErrForm))
				wantUnprinted(t, plan(1, want), 0, api.ErrForm)
			case n < c.least || n > c.most:
				wantLine(t, line, bad(c.kind, api.ErrRange))
				wantUnprinted(t, plan(1, want), 0, api.ErrForm)
			default:
				wantLine(t, line, want)
				wantPrint(t, plan(1, want), "clients 1\n"+line+"\n")
			}
		}
		for _, word := range []string{"", "00", "01", "007", "000000", "1000000", "0000001", "-1", "+1", "-0", "1.", "1e1", "0x1", "1_0", "1a", "a1", "a", "/", ":", "1/", "1:", "-", "1\n", "\n1", "1\r", "\t1", "\xff", "١", "99999999999999999999"} {
			wantLine(t, c.front+word+c.back, bad(c.kind, api.ErrForm))
		}
	}
}

func setSite(e *api.Entry, n int) { e.Site = n }
func setA(e *api.Entry, n int)    { e.A = n }
func setB(e *api.Entry, n int)    { e.B = n }
func setC(e *api.Entry, n int)    { e.C = n }

// TestCharacters: every byte as an insertion's character, and what is not one byte.
func TestCharacters(t *testing.T) {
	for c := range 256 {
		line := "insert 1 0 " + string([]byte{byte(c)})
		e := api.Entry{Kind: api.EInsert, Site: 1, Ch: byte(c)}
		if c >= 32 && c <= 126 {
			wantLine(t, line, e)
			wantPrint(t, plan(1, e), "clients 1\n"+line+"\n")
			continue
		}
		wantLine(t, line, bad(api.EInsert, api.ErrRange))
		wantUnprinted(t, plan(1, e), 0, api.ErrForm)
	}
	for _, word := range []string{"", "ab", "  ", " a", "a ", "é", "\xff\xff", "a\n", "\n\n", "a b c"} {
		wantLine(t, "insert 1 0 "+word, bad(api.EInsert, api.ErrForm))
	}
}

// TestBytes: every byte as a forged one, every sign as one of its two, and how many there may be.
func TestBytes(t *testing.T) {
	const signs = "0123456789abcdef"
	for c := range 256 {
		word := string([]byte{signs[c/16], signs[c%16]})
		e := api.Entry{Kind: api.EForge, Site: 3, Bytes: []byte{byte(c)}}
		wantLine(t, "forge 3 "+word, e)
		wantPrint(t, plan(1, e), "clients 1\nforge 3 "+word+"\n")
		sign := string([]byte{byte(c)})
		if !strings.Contains(signs, sign) && c != ' ' {
			wantLine(t, "forge 3 "+sign+"0", bad(api.EForge, api.ErrHex))
			wantLine(t, "forge 3 0"+sign, bad(api.EForge, api.ErrHex))
			wantLine(t, "forge 3 00"+sign+sign+"00", bad(api.EForge, api.ErrHex))
		}
		if c != '-' && c != ' ' {
			wantLine(t, "forge 3 "+sign, bad(api.EForge, api.ErrHex))
		}
	}
	for n := range 140 {
		word := strings.Repeat("5a", n)
		e := api.Entry{Kind: api.EForge, Bytes: []byte(strings.Repeat("Z", n))}
		switch {
		case n == 0:
			wantLine(t, "forge 0 ", bad(api.EForge, api.ErrHex))
			wantPrint(t, plan(1, e), "clients 1\nforge 0 -\n")
		case n <= 64:
			wantLine(t, "forge 0 "+word, e)
			wantPrint(t, plan(1, e), "clients 1\nforge 0 "+word+"\n")
		default:
			wantLine(t, "forge 0 "+word, bad(api.EForge, api.ErrRange))
			wantUnprinted(t, plan(1, e), 0, api.ErrForm)
		}
		wantLine(t, "forge 0 "+word+"5", bad(api.EForge, api.ErrHex))
	}
	for _, word := range []string{"--", "-0", "0-", "00-", "-00", "00 00", "\n", "00\n"} {
		e := api.ErrHex
		if strings.Contains(word, " ") {
			e = api.ErrForm
		}
		wantLine(t, "forge 0 "+word, bad(api.EForge, e))
	}
}

// TestFirstError: of several errors of a line the one that the chapter names first.
func TestFirstError(t *testing.T) {
	for line, want := range map[string]api.Entry{
		"fly 99 99 zz zz":           bad(api.EBad, api.ErrVerb),
		"tick 65 x":                 bad(api.ETick, api.ErrForm),
		"tick x 65":                 bad(api.ETick, api.ErrForm),
		"forge 65":                  bad(api.EForge, api.ErrForm),
		"forge 0 zz zz":             bad(api.EForge, api.ErrForm),
		"forge x zz":                bad(api.EForge, api.ErrForm),
		"forge 65 zz":               bad(api.EForge, api.ErrHex),
		"forge 65 0":                bad(api.EForge, api.ErrHex),
		"forge 065 zz":              bad(api.EForge, api.ErrForm),
		"flip 9999 99 x":            bad(api.EFlip, api.ErrForm),
		"flip 9999 99 256":          bad(api.EFlip, api.ErrRange),
		"crash 262145 262145 -":     bad(api.ECrash, api.ErrForm),
		"insert 65 4096 ":           bad(api.EInsert, api.ErrForm),
		"insert 65 4096 \n":         bad(api.EInsert, api.ErrRange),
		"insert 1 x \n":             bad(api.EInsert, api.ErrForm),
		"insert x 0 a":              bad(api.EInsert, api.ErrForm),
		"forge 0 " + longWord("z"):  bad(api.EForge, api.ErrHex),
		"forge 65 " + longWord("0"): bad(api.EForge, api.ErrRange),
		"forge 65 " + longWord("-"): bad(api.EForge, api.ErrHex),
		"tick " + longWord("1"):     bad(api.ETick, api.ErrForm),
		longWord("tick"):            bad(api.EBad, api.ErrVerb),
	} {
		wantLine(t, line, want)
	}
}

func longWord(s string) string { return strings.Repeat(s, 200000) }

// TestLines: a line ends at byte 10 alone, and nothing behind the last one is no line.
func TestLines(t *testing.T) {
	all, none := api.Entry{Kind: api.EAll}, bad(api.EBad, api.ErrVerb)
	for text, want := range map[string][]api.Entry{
		"":                     nil,
		"\n":                   nil,
		"\n\n":                 {none},
		"\n\n\n":               {none, none},
		"\nall":                {all},
		"\nall\n":              {all},
		"\nall\n\n":            {all, none},
		"\n\nall":              {none, all},
		"\n\nall\n":            {none, all},
		"\nall\nall":           {all, all},
		"\n ":                  {none},
		"\nall\r\nall\r\n":     {none, none},
		"\nall\rall":           {none},
		"\nall\x0ball":         {none},
		"\nall\x0call":         {none},
		"\nall\x00all":         {none},
		"\nall\u0085all":       {none},
		"\nall\u2028all\u2029": {none},
		"\nall\xc0\x8aall":     {none},
		"\n\xe2\x80\nall":      {none, all},
		"\n\xff\nall\n\xf0":    {none, all, none},
		"\nall\n\ufeffall":     {all, none},
		"\né\nall\n世\nall":     {none, all, none, all},
		"\ninsert 1 0 \nall":   {bad(api.EInsert, api.ErrForm), all},
		"\ninsert 1 0 \xff\n":  {bad(api.EInsert, api.ErrRange)},
		"\ninsert 1 0 é\nall":  {bad(api.EInsert, api.ErrForm), all},
		"\nclients 2\nall":     {none, all},
		"\ntick x\nall\ntick 65\nforge 0 0\nboot": {bad(api.ETick, api.ErrForm), all, bad(api.ETick, api.ErrRange), bad(api.EForge, api.ErrHex), {Kind: api.EBoot}},
	} {
		wantParse(t, "clients 7"+text, plan(7, want...))
	}
}

// TestHeader: the numbers of clients that there are, and what is no header.
func TestHeader(t *testing.T) {
	for n := range 70 {
		head := "clients " + strconv.Itoa(n)
		if n < 1 || n > 64 {
			wantUnread(t, head, 0, api.ErrHeader)
			wantUnread(t, head+"\nall\n", 0, api.ErrHeader)
			wantUnprinted(t, plan(n), 0, api.ErrHeader)
			continue
		}
		wantParse(t, head, plan(n))
		wantParse(t, head+"\n", plan(n))
		wantPrint(t, plan(n), head+"\n")
	}
	for _, head := range []string{"\n", "\n\n", " ", "clients", "clients ", "clients  1", " clients 1", "clients 1 ", "clients 1 1", "clients 01", "clients 001", "clients -1", "clients +1", "clients 1x", "clients x", "clients 1000000", "clients 1000001", "clients 999999", "Clients 1", "CLIENTS 1", "client 1", "clientss 1", "clients1", "clients\t1", "clients 1\r", "clients 1\x00", "\ufeffclients 1", "clients\n1", "1 clients", "all", "all 1", "clients 1 \n", "clients ١"} {
		wantUnread(t, head, 0, api.ErrHeader)
		wantUnread(t, head+"\nall", 0, api.ErrHeader)
	}
	for _, n := range []int{-1 << 63, -65, -1, 65, 100, 1<<63 - 1} {
		wantUnprinted(t, plan(n), 0, api.ErrHeader)
	}
}

// TestManyEntries: 1024 entries are taken, read and printed; one more refuses the whole.
func TestManyEntries(t *testing.T) {
	all := api.Entry{Kind: api.EAll}
	lines := "clients 1\n" + strings.Repeat("all\n", api.MaxEntries)
	full := plan(1, times(api.MaxEntries, all)...)
	wantParse(t, lines, full)
	wantParse(t, strings.TrimSuffix(lines, "\n"), full)
	wantPrint(t, full, lines)
	for _, more := range []string{"\n", "x", "all", "all\n", "\n\n\n", "tick x\n"} {
		wantUnread(t, lines+more, api.MaxEntries, api.ErrMany)
	}
	wantParse(t, "clients 1\n"+strings.Repeat("\n", api.MaxEntries), plan(1, times(api.MaxEntries, bad(api.EBad, api.ErrVerb))...))
	wantUnprinted(t, plan(1, times(api.MaxEntries+1, all)...), api.MaxEntries, api.ErrMany)
	wantUnprinted(t, plan(1, times(api.MaxEntries+1, bad(api.EBad, api.ErrVerb))...), api.MaxEntries, api.ErrMany)
	wantUnprinted(t, plan(0, times(api.MaxEntries+1, all)...), 0, api.ErrHeader)
	wantUnread(t, "clients 65\n"+strings.Repeat("\n", api.MaxEntries+1), 0, api.ErrHeader)
	wantUnread(t, strings.Repeat("\n", api.MaxEntries+2), 0, api.ErrHeader)
}

// widest gives a script of just MaxScript bytes, none of its entries refused.
func widest() (string, api.Plan) {
	p := plan(1, times(478, api.Entry{Kind: api.EForge, Bytes: make([]byte, 64)})...)
	p.Entries = append(p.Entries, api.Entry{Kind: api.EForge, Site: 10, Bytes: make([]byte, 15)})
	return "clients 1\n" + strings.Repeat("forge 0 "+strings.Repeat("0", 128)+"\n", 478) + "forge 10 " + strings.Repeat("0", 30) + "\n", p
}

// TestLongScripts: a script of 65536 bytes is read and printed; a byte more refuses the whole, ahead of all else.
func TestLongScripts(t *testing.T) {
	text, p := widest()
	if len(text) != api.MaxScript {
		t.Fatalf("the widest text has %d bytes", len(text))
	}
	wantParse(t, text, p)
	wantPrint(t, p, text)
	wantUnread(t, text+"\n", api.MaxScript, api.ErrScript)
	wantUnread(t, text+"x", api.MaxScript, api.ErrScript)

	// The same with a site of one digit more, and no byte 10 at its end: the text is taken, the plan not printed.
	p.Entries = slices.Clone(p.Entries)
	p.Entries[0].Site = 10
	open := strings.TrimSuffix(strings.Replace(text, "forge 0 ", "forge 10 ", 1), "\n")
	if len(open) != api.MaxScript {
		t.Fatalf("the open text has %d bytes", len(open))
	}
	wantParse(t, open, p)
	wantUnprinted(t, p, api.MaxScript, api.ErrScript)
	wantUnread(t, open+"\n", api.MaxScript, api.ErrScript)

	// An entry that has no line comes ahead of the length, and the last is looked at too.
	p.Entries[478].Site = 65
	wantUnprinted(t, p, 478, api.ErrForm)
	p.Entries[3].A = 1
	wantUnprinted(t, p, 3, api.ErrForm)

	wantUnread(t, strings.Repeat("\n", api.MaxScript+1), api.MaxScript, api.ErrScript)
	wantUnread(t, strings.Repeat("x", api.MaxScript+1), api.MaxScript, api.ErrScript)
	wantUnread(t, "clients 1\n"+strings.Repeat("\n", api.MaxScript), api.MaxScript, api.ErrScript)
	wantUnread(t, strings.Repeat("\n", api.MaxScript), 0, api.ErrHeader)
	wantUnread(t, strings.Repeat("x", api.MaxScript), 0, api.ErrHeader)
	wantUnread(t, "clients 1\n"+strings.Repeat("\n", api.MaxScript-10), api.MaxEntries, api.ErrMany)
	wantParse(t, "clients 1\n"+strings.Repeat("x", api.MaxScript-10), plan(1, bad(api.EBad, api.ErrVerb)))
	wantUnprinted(t, plan(1, times(api.MaxEntries, api.Entry{Kind: api.EForge, Bytes: make([]byte, 64)})...), api.MaxScript, api.ErrScript)
}

// TestUnprinted: what Line gives of no line, at every place of a plan.
func TestUnprinted(t *testing.T) {
	all := api.Entry{Kind: api.EAll}
	var wrong []api.Entry
	for _, kind := range []int{-1 << 63, -1, api.EBad, 14, 15, 100, 1<<63 - 1} {
		wrong = append(wrong, api.Entry{Kind: kind}, bad(kind, api.ErrVerb))
	}
	for _, c := range each {
		for _, e := range []api.Errno{api.Other, api.ErrVerb, api.ErrForm, api.ErrRange, api.ErrHex, -1} {
			wrong = append(wrong, bad(c.entry.Kind, e))
			x := c.entry
			x.Err = e
			wrong = append(wrong, x)
		}
		for _, set := range []func(e *api.Entry, n int){setSite, setA, setB, setC} {
			for _, n := range []int{-1 << 63, -1, 262145, 1<<63 - 1} {
				x := c.entry
				set(&x, n)
				wrong = append(wrong, x)
			}
		}
	}
	for _, x := range wrong {
		wantUnprinted(t, plan(1, x), 0, api.ErrForm)
		wantUnprinted(t, plan(64, all, x), 1, api.ErrForm)
		wantUnprinted(t, plan(64, all, all, x, all, x), 2, api.ErrForm)
		wantUnprinted(t, plan(65, x), 0, api.ErrHeader)
	}
	last := append(times(api.MaxEntries-1, all), wrong[0])
	wantUnprinted(t, plan(1, last...), api.MaxEntries-1, api.ErrForm)
}

// TestUnnamed: a field that its kind does not name must be 0; no byte is no byte, nil or not.
func TestUnnamed(t *testing.T) {
	for _, c := range each {
		x := c.entry
		if x.Bytes == nil {
			x.Bytes = []byte{}
			wantPrint(t, plan(2, x), "clients 2\n"+c.line+"\n")
			x.Bytes = make([]byte, 0, 8)
			wantPrint(t, plan(2, x), "clients 2\n"+c.line+"\n")
			x.Bytes = []byte{0}
			wantUnprinted(t, plan(2, x), 0, api.ErrForm)
		}
		for _, set := range []func(e *api.Entry, n int){setSite, setA, setB, setC} {
			y := c.entry
			set(&y, 1)
			named := c.entry
			set(&named, 0)
			if same(named, c.entry) {
				wantUnprinted(t, plan(2, y), 0, api.ErrForm)
			}
		}
		if c.entry.Ch == 0 {
			y := c.entry
			y.Ch = 'a'
			wantUnprinted(t, plan(2, y), 0, api.ErrForm)
		}
	}
	wantPrint(t, plan(2, api.Entry{Kind: api.EForge, Bytes: []byte{}}), "clients 2\nforge 0 -\n")
}
