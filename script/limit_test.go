package script_test

import (
	"bytes"
	"runtime"
	"slices"
	"strings"
	"sync"
	"testing"
	"time"

	"jotter/api"
	"jotter/script"
)

// spoil writes over a list of bytes, its spare room too.
func spoil(b []byte) {
	b = b[:cap(b)]
	for i := range b {
		b[i] ^= 0xff
	}
}

// TestAnswersAreNew: what is written into one answer is seen in no other, and not in another list of the same one.
func TestAnswersAreNew(t *testing.T) {
	text := "clients 2\nforge 0 0102\nforge 1 0304\nforge 0 0102\n"
	forge := func(site int, b ...byte) api.Entry { return api.Entry{Kind: api.EForge, Site: site, Bytes: b} }
	want := plan(2, forge(0, 1, 2), forge(1, 3, 4), forge(0, 1, 2))
	p, err := script.Parse(text)
	if err != nil {
		t.Fatalf("P15.2: Parse(%s): %v", quote(text), err)
	}
	q, _ := script.Parse(text)
	spoil(p.Entries[0].Bytes)
	if !samePlan(plan(2, p.Entries[1:]...), plan(2, want.Entries[1:]...)) || !samePlan(q, want) {
		t.Fatalf("P0.2: %s and %s, want %s", planWord(p), planWord(q), planWord(want))
	}
	_ = append(p.Entries[:cap(p.Entries)][:0], make([]api.Entry, cap(p.Entries))...)
	wantParse(t, text, want)
	a := script.Line("forge 0 0102")
	spoil(a.Bytes)
	wantLine(t, "forge 0 0102", want.Entries[0])
}

// TestNothingIsChanged: a plan that is printed, or refused, is as it was.
func TestNothingIsChanged(t *testing.T) {
	for _, wrong := range []int{0, 65} {
		room := append(make([]byte, 0, 8), 1, 2, 3)
		p := plan(2, api.Entry{Kind: api.EForge, Bytes: room}, api.Entry{Kind: api.ETick, Site: wrong}, api.Entry{Kind: api.EAll})
		script.Print(p)
		want := plan(2, api.Entry{Kind: api.EForge, Bytes: []byte{1, 2, 3}}, api.Entry{Kind: api.ETick, Site: wrong}, api.Entry{Kind: api.EAll})
		if !samePlan(p, want) || !bytes.Equal(room[:8], []byte{1, 2, 3, 0, 0, 0, 0, 0}) {
			t.Fatalf("P0.2: %s behind Print, want %s", planWord(p), planWord(want))
		}
	}
}

// TestSendersEnd: whatever a text comes to, its lines are heard to the end, under every schedule; no goroutine is left behind.
func TestSendersEnd(t *testing.T) {
	defer runtime.GOMAXPROCS(runtime.GOMAXPROCS(0))
	most, p := widest()
	all := "clients 3\n" + strings.Repeat("all\n", api.MaxEntries)
	for _, procs := range []int{1, 2, 8} {
		runtime.GOMAXPROCS(procs)
		before := runtime.NumGoroutine()
		for range 100 {
			wantParse(t, most, p)
			wantUnread(t, "", 0, api.ErrHeader)
			wantUnread(t, strings.Repeat("all\n", 2000), 0, api.ErrHeader)
			wantUnread(t, all+"all\n", api.MaxEntries, api.ErrMany)
			wantUnread(t, all+most, api.MaxScript, api.ErrScript)
		}
		// One that has told its end may still be counted for a moment, a longer one if the machine is busy.
		for n := 0; runtime.NumGoroutine() > before && n < 5000; n++ {
			time.Sleep(time.Millisecond)
		}
		if n := runtime.NumGoroutine(); n > before {
			t.Fatalf("P15.2: %d goroutines behind the calls, %d before", n, before)
		}
	}
}

// TestSideBySide: calls that run at one time know nothing of each other.
func TestSideBySide(t *testing.T) {
	texts := []string{"clients 1\nall\n", "clients 2\ntick 1\nforge 0 00ff", "clients 3\n\n\ntick 65\n", "clients 64\ninsert 1 0  "}
	var plans []api.Plan
	for _, text := range texts {
		p, _, _ := modelParse(text)
		plans = append(plans, p)
	}
	var wg sync.WaitGroup
	same := make([]bool, 8*len(texts))
	for i := range same {
		wg.Go(func() {
			same[i] = true
			for range 200 {
				p, err := script.Parse(texts[i%len(texts)])
				same[i] = same[i] && err == nil && samePlan(p, plans[i%len(texts)])
				script.Print(p)
			}
		})
	}
	wg.Wait()
	if slices.Contains(same, false) {
		t.Fatal("P0.1: calls side by side have answered otherwise")
	}
}

// TestHugeInputs: lines and entries far above all limits are refused, and cost no more than going through them once.
func TestHugeInputs(t *testing.T) {
	huge := 1 << 26
	wantLine(t, strings.Repeat(" ", huge), bad(api.EBad, api.ErrVerb))
	wantLine(t, "tick"+strings.Repeat(" ", huge), bad(api.ETick, api.ErrForm))
	wantLine(t, "insert 1 1 "+strings.Repeat(" ", huge), bad(api.EInsert, api.ErrForm))
	wantLine(t, "forge 1 "+strings.Repeat("0", huge), bad(api.EForge, api.ErrRange))
	wantUnread(t, strings.Repeat("\n", huge), api.MaxScript, api.ErrScript)
	wantUnprinted(t, plan(1, api.Entry{Kind: api.EForge, Bytes: make([]byte, huge)}), 0, api.ErrForm)
	wantUnprinted(t, plan(1, api.Entry{Kind: api.EAll, Bytes: make([]byte, huge)}), 0, api.ErrForm)
}
