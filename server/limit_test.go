package server_test

import (
	"bytes"
	"runtime"
	"slices"
	"testing"
	"time"

	"jotter/api"
	"jotter/disk"
	"jotter/server"
	"jotter/wire"
)

// full gives a server of 64 clients, all of whose edits are in the log, none of them synced.
func full(t *testing.T) (*server.Server, *disk.Disk) {
	t.Helper()
	d := disk.New()
	s := start(t, d, api.MaxClients)
	for who := 1; who <= api.MaxClients; who++ {
		get(t, "P13.4", s, hello(who, 0, 1))
	}
	for seq := 1; seq <= api.MaxEdits; seq++ {
		for who := 1; who <= api.MaxClients; who++ {
			get(t, "P13.6", s, edit(seq, 0, 0, ins(seq-1, 'a'+byte(who%26), who, seq)))
		}
	}
	return s, d
}

// TestFullLog: all 4096 records are told to all, and acknowledged, with all the numbers that a link has.
func TestFullLog(t *testing.T) {
	s, d := full(t)
	v := s.View()
	if v.Revs != api.MaxLog || v.Synced != 0 || len(v.Doc) != api.MaxDoc || d.Size() != 10+17*api.MaxLog || d.Synced() != 10 {
		t.Fatalf("P13.6: Revs %d, Synced %d, a text of %d, the disk has %d bytes, %d synced", v.Revs, v.Synced, len(v.Doc), d.Size(), d.Synced())
	}
	for first := 1; first <= api.MaxLog; first += api.Window {
		said := s.Tick()
		if len(said) != api.MaxClients*api.Window {
			t.Fatalf("P13.2: %d datagrams, want 512", len(said))
		}
		for i, g := range said {
			who, num := 1+i/api.Window, first+i%api.Window
			m, err := wire.Decode(g.Bytes)
			if err != nil || g.To != who || m.Client != who || m.Num != num || m.Rev != num || m.Ack != api.MaxEdits || m.Kind != api.MRecord {
				t.Fatalf("P13.2: datagram %d is %s, want record %d to client %d", i, saidWord(said[i:i+1]), num, who)
			}
		}
		for who := 1; who <= api.MaxClients; who++ {
			get(t, "P13.5", s, nod(who, first+api.Window-1))
		}
	}
	want := api.LinkView{Open: true, From: 1, Sent: api.MaxNum, Got: api.MaxNum, Cum: api.MaxEdits}
	for who := 1; who <= api.MaxClients; who += 21 {
		wantLink(t, "P13.7", s, who, want)
	}
	if said := s.Tick(); len(said) != api.MaxClients {
		t.Fatalf("P13.2: %d datagrams, want 64 Beats", len(said))
	}
	wantFullAgain(t, d)
}

// wantFullAgain starts on a full log, where nobody has anything to make, and everybody may have anything.
func wantFullAgain(t *testing.T, d *disk.Disk) {
	t.Helper()
	s := start(t, d, api.MaxClients)
	get(t, "P13.4", s, of(2, hello(1, api.MaxLog, api.MaxEdits+1)))
	get(t, "P13.4", s, of(2, hello(2, 0, 1)))
	// Client 3's last edit is the record 4096 - 61.
	for _, c := range []struct {
		have, first int
		want        api.Errno
	}{{api.MaxLog, 64, api.ErrFirst}, {4034, 65, api.ErrFirst}, {4035, 64, api.ErrFirst}} {
		refuse(t, "P13.4", s, of(2, hello(3, c.have, c.first)), c.want)
	}
	get(t, "P13.4", s, of(2, hello(3, 4035, 65)))
	refuse(t, "P13.6: it has made its last", s, of(2, edit(1, 0, 0, ins(0, 'x', 1, 64))), api.ErrSeq)
	refuse(t, "P13.6", s, of(2, edit(65, 0, 0, ins(0, 'x', 2, 64))), api.ErrSeq)
	for num := 64; num > 0; num -= 8 {
		// All edits of client 2 come again, each eight of them backwards.
		for k := range 8 {
			get(t, "P13.6", s, of(2, edit(64-num+8-k, 0, 0, ins(64-num+7-k, 'c', 2, 64-num+8-k))))
		}
	}
	wantLink(t, "P13.6", s, 2, api.LinkView{Open: true, From: 1, Cum: 64})
	if v := s.View(); v.Revs != api.MaxLog || v.Synced != api.MaxLog || len(v.Told) != api.MaxDoc {
		t.Fatalf("P13.9: Revs %d, Synced %d, a text of %d", v.Revs, v.Synced, len(v.Told))
	}
	said := s.Tick()
	if len(said) != 1+8+8+61 {
		t.Fatalf("P13.2: %d datagrams, want a Beat, eight Records for 2 and for 3, and 61 Invites", len(said))
	}
	wantSaid(t, "P13.2", said[:1], of(2, beat(1, 0)))
	if m, err := wire.Decode(said[9].Bytes); err != nil || m.Client != 3 || m.Num != 1 || m.Rev != 4036 {
		t.Fatalf("P13.2: client 3 is told %s, want record 4036", saidWord(said[9:10]))
	}
}

// TestManyEpochs: sessions of every epoch, up to the last.
func TestManyEpochs(t *testing.T) {
	d := disk.New()
	for epoch := 1; epoch <= api.MaxEpoch; epoch++ {
		s := start(t, d, 1)
		seq := min(epoch, api.MaxEdits)
		have := min(epoch-1, api.MaxEdits)
		get(t, "P13.4", s, of(epoch, hello(1, have, have+1)))
		if epoch <= api.MaxEdits {
			get(t, "P13.6", s, of(epoch, edit(1, 0, have, ins(0, 'a', 1, seq))))
			wantTick(t, "P13.2", s, of(epoch, record(1, 1, 1, seq, ins(0, 'a', 1, seq))))
			continue
		}
		wantTick(t, "P13.2", s, of(epoch, beat(1, 0)))
		refuse(t, "P13.3", s, of(epoch-1, nod(1, 0)), api.ErrStale)
	}
}

// spoil writes over a list where it lies, and over its spare room: as far as an append could.
func spoil[T any](list []T, wrong T) {
	list = list[:cap(list)]
	for i := range list {
		list[i] = wrong
	}
}

// spoilAll writes over all that a server has answered.
func spoilAll(s *server.Server) {
	v := s.View()
	spoil(v.Doc, api.Elem{Ch: '?', Client: 9, Seq: 9})
	spoil(v.Told, api.Elem{Ch: '!', Client: 8, Seq: 8})
	spoil(v.Links, api.LinkView{Open: true, Base: 9, From: 9, Sent: 9, Got: 9, Cum: 9})
	spoil(s.Edits(), api.Edit{Tag: 9})
	said := s.Tick()
	for _, g := range said {
		spoil(g.Bytes, 255)
	}
	spoil(said, api.Datagram{From: 9, To: 9})
}

// TestAnswersAreNewMemory: what is written into an answer, or put behind it, changes no later answer.
func TestAnswersAreNewMemory(t *testing.T) {
	for seed := range 20 {
		r := dice(seed)
		p := newPair(t, 3)
		for range 60 {
			p.playOne(t, r)
			spoilAll(p.s)
			p.m.tick()
			wantSeen(t, "P0.2", see(p.s), p.m.see())
			p.tick(t)
		}
	}
}

// TestListsOfOneAnswerShareNothing: the texts of one View, and the datagrams of one tick.
func TestListsOfOneAnswerShareNothing(t *testing.T) {
	s, _ := example5(t)
	get(t, "P13.4", s, hello(2, 0, 1))
	s.Tick()
	v := s.View()
	told := slices.Clone(v.Told)
	spoil(v.Doc, api.Elem{})
	if !slices.Equal(v.Told, told) {
		t.Fatalf("P0.2: Doc and Told share memory")
	}
	said := s.Tick()
	for i := range said {
		kept := bytes.Clone(said[i].Bytes)
		spoil(said[i].Bytes, 255)
		for k, g := range s.Tick() {
			if k != i && !bytes.Equal(g.Bytes, said[k].Bytes) {
				t.Fatalf("P0.2: the datagrams %d and %d share memory", i, k)
			}
		}
		copy(said[i].Bytes, kept)
	}
}

// TestReceiveKeepsNoBytes: a held edit does not hang on the datagram's memory.
func TestReceiveKeepsNoBytes(t *testing.T) {
	s, _ := example3(t)
	room := append(make([]byte, 0, 40), bytesOf(t, edit(3, 0, 0, ins(2, 'c', 1, 3)))...)
	kept := bytes.Clone(room[:cap(room)])
	if err := s.Receive(room); err != nil || !bytes.Equal(room[:cap(room)], kept) {
		t.Fatalf("P0.2: Receive: %v, and its bytes are %x", err, room[:cap(room)])
	}
	spoil(room, 255)
	get(t, "P13.6", s, edit(2, 0, 0, ins(1, 'b', 1, 2)))
	wantState(t, "P13.7", s, 3, 1, "abc", "a")
}

// TestServersShareNothing: what is done to one is not seen in another.
func TestServersShareNothing(t *testing.T) {
	still, _ := example3(t)
	before := see(still)
	busy, _ := example5(t)
	get(t, "P13.4", busy, hello(2, 0, 1))
	busy.Tick()
	wantSeen(t, "P13.11", see(still), before)
	wantTick(t, "P13.11", still, record(1, 1, 1, 1, ins(0, 'a', 1, 1)), invite(2))
}

// TestGoroutinesHaveEnded: a tick leaves none behind, and no schedule is seen in what it answers.
func TestGoroutinesHaveEnded(t *testing.T) {
	defer runtime.GOMAXPROCS(runtime.GOMAXPROCS(0))
	var want []api.Datagram
	for _, procs := range []int{1, 2, 8} {
		runtime.GOMAXPROCS(procs)
		before := runtime.NumGoroutine()
		s := start(t, disk.New(), api.MaxClients)
		for who := 1; who <= api.MaxClients; who += 2 {
			get(t, "P13.4", s, hello(who, 0, 1))
			get(t, "P13.6", s, edit(1, 0, 0, ins(0, 'a', who, 1)))
		}
		for range 50 {
			said := s.Tick()
			if want == nil {
				want = said
			}
			if !slices.EqualFunc(said, want, sameDatagram) {
				t.Fatalf("P13.11: %s\nbefore %s", saidWord(said), saidWord(want))
			}
		}
		// One that has told its end may still be counted for a moment, a longer one if the machine is busy.
		for n := 0; runtime.NumGoroutine() > before && n < 5000; n++ {
			time.Sleep(time.Millisecond)
		}
		if n := runtime.NumGoroutine(); n > before {
			t.Fatalf("P13.2: %d goroutines behind 50 ticks, %d before", n, before)
		}
	}
}
