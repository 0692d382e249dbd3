package history_test

import (
	"testing"

	"jotter/api"
	"jotter/history"
)

// TestExamples: those of the chapter.
func TestExamples(t *testing.T) {
	wantTaken(t, "example 1", alone())
	wantSeen(t, "example 1", alone(), 1, a, b)
	wantPath(t, "example 1", alone(), 1, "0.0", "0.1 a", "0.2 ab")
	wantSide(t, "example 1", alone(), a, b, 1)
	wantVerdict(t, "example 1", alone(), 0, 0, 0)
	wantVerdict(t, "example 1", with(alone(), 1, b, a), 1, 1, 0)

	wantVerdict(t, "example 2", together(), 0, 0, 0)
	wantPath(t, "example 2", together(), 1, "0.0", "0.1 x", "1.1 x", "2.1 xy")
	wantPath(t, "example 2", together(), 2, "0.0", "0.1 y", "1.1 xy", "2.1 xy")
	wantVerdict(t, "example 2", with(together(), 2, y, x), 5, 2, -1)

	short := bent(with(together(), 2, y, x), func(h *api.History) { h.Log, h.Events = h.Log[:1], h.Events[:4] })
	wantVerdict(t, "example 3", short, 5, 2, -1)
	wantVerdict(t, "example 3", with(together(), 2, x), 2, 2, -1)
	wantVerdict(t, "example 3", with(together(), 4, y, x), 3, 4, 2)
	wantVerdict(t, "example 3", withThird(y, x, w), 4, 7, 2)

	wantSeen(t, "example 4", erased(), 2)
	wantPath(t, "example 4", erased(), 1, "0.0", "0.1 x", "1.1 x", "1.2", "2.2")
	wantVerdict(t, "example 4", erased(), 0, 0, 0)
	_, err := history.Ahead(erased(), x, x)
	wantError(t, "P14.4: example 4", err, api.Wrap(1, api.ErrHistAsk))

	wantVerdict(t, "example 5", unmet(), 0, 0, 0)
	wantPath(t, "example 5", unmet(), 1, "0.0", "0.1 x", "0.2", "1.2", "2.2 y", "3.2 y", "4.2")
	wantPath(t, "example 5", unmet(), 2, "0.0", "0.1 y", "0.2", "1.2 x", "2.2 x", "3.2", "4.2")
	wantSide(t, "example 5", unmet(), x, y, 1)

	lone := []api.Edit{edit(0, ins(0, 'x', 1, 1))}
	wantRefused(t, "example 6", api.History{}, 0, api.ErrHistClients)
	wantRefused(t, "example 6", api.History{Clients: 1, Log: []api.Edit{edit(1, ins(0, 'x', 1, 1))}}, 0, api.ErrHistLog)
	wantRefused(t, "example 6", api.History{Clients: 1, Log: lone}, 0, api.ErrHistLog)
	wantRefused(t, "example 6", api.History{Clients: 1, Log: lone, Events: []api.Event{reads(9, 0, 0)}}, 0, api.ErrHistEvent)
	wantRefused(t, "example 6", bent(erased(), func(h *api.History) { h.Events[2].Have = 2 }), 2, api.ErrHistEvent)
}

// withThird is example 2 with a third client, its edit in the log, and client 1's text behind that.
func withThird(text ...api.Elem) api.History {
	return bent(together(), func(h *api.History) {
		h.Clients = 3
		h.Log = append(h.Log, edit(0, ins(0, 'w', 3, 1)))
		h.Events = append(h.Events, makes(0, ins(0, 'w', 3, 1), w), reads(1, 3, 1, text...))
	})
}

// TestNumberOfClients: 1 to 64, and nothing else is looked at first.
func TestNumberOfClients(t *testing.T) {
	for _, n := range []int{-1 << 63, -1, 0, 65, 1<<63 - 1} {
		h := api.History{Clients: n, Log: make([]api.Edit, api.MaxLog+1), Events: []api.Event{reads(-1, 0, 0)}}
		wantRefused(t, "so many clients", h, 0, api.ErrHistClients)
	}
	for n := 1; n <= api.MaxClients; n++ {
		wantTaken(t, "so many clients", api.History{Clients: n})
		wantTaken(t, "the last client", api.History{Clients: n, Events: []api.Event{makes(0, ins(0, 'x', n, 1), el('x', n, 1))}})
		wantRefused(t, "one beyond", api.History{Clients: n, Events: []api.Event{reads(n+1, 0, 0)}}, 0, api.ErrHistEvent)
	}
}

// TestLongLog: 4097 edits are too many, whatever they are.
func TestLongLog(t *testing.T) {
	bad := []api.Event{reads(-1, 0, 0)}
	wantRefused(t, "4097 edits", api.History{Clients: 1, Log: make([]api.Edit, api.MaxLog+1), Events: bad}, 0, api.ErrHistLong)
	wantRefused(t, "4096 edits that are none", api.History{Clients: 1, Log: make([]api.Edit, api.MaxLog), Events: bad}, 0, api.ErrHistLog)
}

// TestLog: which edits can stand in a log. An event that cannot be stands behind it, so that a log that can be is told from one that nobody made.
func TestLog(t *testing.T) {
	one := edit(0, ins(0, 'x', 1, 1))
	two := edit(0, ins(0, 'y', 2, 1))
	for what, c := range map[string]struct {
		log []api.Edit
		bad int // -1: none is
	}{
		"no edit":                     {nil, -1},
		"one insert":                  {[]api.Edit{one}, -1},
		"one deletion":                {[]api.Edit{edit(0, del(4095, 2, 1))}, -1},
		"a Nop":                       {[]api.Edit{edit(0, nop(1, 1))}, 0},
		"no kind":                     {[]api.Edit{one, edit(0, api.Op{Kind: 3, Client: 2, Seq: 1})}, 1},
		"a kind below 0":              {[]api.Edit{edit(0, api.Op{Kind: -1, Client: 2, Seq: 1})}, 0},
		"a character below 32":        {[]api.Edit{edit(0, ins(0, 31, 1, 1))}, 0},
		"a deletion with a character": {[]api.Edit{edit(0, api.Op{Kind: api.Delete, Ch: 'x', Client: 1, Seq: 1})}, 0},
		"a place below 0":             {[]api.Edit{edit(0, del(-1, 1, 1))}, 0},
		"a place of no text":          {[]api.Edit{edit(0, ins(4096, 'x', 1, 1))}, 0},
		"client 0":                    {[]api.Edit{edit(0, ins(0, 'x', 0, 1))}, 0},
		"client 2 of 2":               {[]api.Edit{two}, -1},
		"client 3 of 2":               {[]api.Edit{one, two, edit(0, ins(0, 'w', 3, 1))}, 2},
		"client 65":                   {[]api.Edit{edit(0, ins(0, 'w', 65, 1))}, 0},
		"Seq 0":                       {[]api.Edit{edit(0, ins(0, 'x', 1, 0))}, 0},
		"Seq 2 first":                 {[]api.Edit{edit(0, ins(0, 'x', 1, 2))}, 0},
		"Seq 2 of another first":      {[]api.Edit{one, edit(0, ins(0, 'y', 2, 2))}, 1},
		"Seq 1 twice":                 {[]api.Edit{one, two, one}, 2},
		"Seqs 1, 2":                   {[]api.Edit{one, two, edit(0, del(0, 1, 2))}, -1},
		"Seqs 1, 3":                   {[]api.Edit{one, two, edit(0, del(0, 1, 3))}, 2},
		"Seqs 1, 2, 1":                {[]api.Edit{one, edit(0, del(0, 1, 2)), edit(0, del(0, 1, 1))}, 2},
		"a tag below 0":               {[]api.Edit{edit(-1, ins(0, 'x', 1, 1))}, 0},
		"a tag below 0, far":          {[]api.Edit{edit(-1<<63, ins(0, 'x', 1, 1))}, 0},
		"a tag of all ahead":          {[]api.Edit{one, edit(1, ins(0, 'y', 2, 1))}, -1},
		"a tag beyond":                {[]api.Edit{one, edit(2, ins(0, 'y', 2, 1))}, 1},
		"a tag of itself, alone":      {[]api.Edit{edit(1, ins(0, 'x', 1, 1))}, 0},
		"tags 1, 1 of one client":     {[]api.Edit{one, edit(1, ins(0, 'y', 2, 1)), edit(1, del(0, 2, 2))}, -1},
		"tags 1, 0 of one client":     {[]api.Edit{one, edit(1, ins(0, 'y', 2, 1)), edit(0, del(0, 2, 2))}, 2},
		"tags 1, 2 of one client":     {[]api.Edit{one, edit(1, ins(0, 'y', 2, 1)), edit(2, del(0, 2, 2))}, -1},
		"tags 1, 0 of two clients":    {[]api.Edit{one, edit(1, ins(0, 'y', 2, 1)), edit(0, del(0, 1, 2))}, -1},
	} {
		h := api.History{Clients: 2, Log: c.log, Events: []api.Event{reads(-1, 0, 0)}}
		if c.bad < 0 {
			wantRefused(t, what, h, 0, api.ErrHistEvent)
		} else {
			wantRefused(t, what, h, c.bad, api.ErrHistLog)
		}
	}
}

// TestEvents: which events can be. Each case is a history that can be but for one thing, or that one thing's edge.
func TestEvents(t *testing.T) {
	for what, c := range map[string]struct {
		h    api.History
		bend func(h *api.History)
		bad  int // -1: none is
	}{
		"Site -1":                    {together(), func(h *api.History) { h.Events[5].Site = -1 }, 5},
		"Site 3 of 2":                {together(), func(h *api.History) { h.Events[5].Site = 3 }, 5},
		"a great Site":               {together(), func(h *api.History) { h.Events[5].Site = 1<<63 - 1 }, 5},
		"Site 1 for the server's":    {together(), func(h *api.History) { h.Events[5].Site, h.Events[5].Made = 1, 1 }, -1},
		"Step -1 at first":           {together(), func(h *api.History) { h.Events[0].Step = -1 }, 0},
		"Step 7 at first":            {together(), func(h *api.History) { steps(h, 7, 7, 8, 8, 9, 1<<62) }, -1},
		"a Step back":                {together(), func(h *api.History) { steps(h, 7, 7, 8, 8, 7, 9) }, 4},
		"a Step back, another site":  {together(), func(h *api.History) { steps(h, 7, 6, 8, 8, 9, 9) }, 1},
		"a Step below 0 later":       {together(), func(h *api.History) { steps(h, 0, -1, 0, 0, 0, 0) }, 1},
		"a text of 4096":             {together(), func(h *api.History) { h.Events[5].Doc = make([]api.Elem, api.MaxDoc) }, -1},
		"a text of 4097":             {together(), func(h *api.History) { h.Events[5].Doc = make([]api.Elem, api.MaxDoc+1) }, 5},
		"Have back":                  {together(), func(h *api.History) { h.Events[4].Have = 0 }, 4},
		"Have back at the server":    {together(), func(h *api.History) { h.Events = append(h.Events, reads(0, 1, 0)) }, 6},
		"Have below 0":               {together(), func(h *api.History) { h.Events[5].Have = -1 }, 5},
		"Have of the whole log":      {together(), func(h *api.History) { h.Events[2].Have = 2 }, -1},
		"Have beyond the log":        {together(), func(h *api.History) { h.Events[2].Have = 3 }, 2},
		"the server, beyond the log": {together(), func(h *api.History) { h.Events[5].Have = 3 }, 5},
		"the server makes an edit":   {together(), func(h *api.History) { h.Events[5].Op = ins(0, 'z', 1, 2) }, 5},
		"the server has made one":    {together(), func(h *api.History) { h.Events[5].Made = 1 }, 5},
		"the server, Made -1":        {together(), func(h *api.History) { h.Events[5].Made = -1 }, 5},
		"Made up, nothing made":      {together(), func(h *api.History) { h.Events[3].Made = 2 }, 3},
		"Made down":                  {together(), func(h *api.History) { h.Events[3].Made = 0 }, 3},
		"Made 1 at first":            {together(), func(h *api.History) { h.Events[0].Op = api.Op{} }, 0},
		"nothing at first":           {together(), func(h *api.History) { h.Events = append([]api.Event{reads(1, 0, 0), reads(2, 0, 0)}, h.Events...) }, -1},
		"another's record first":     {together(), func(h *api.History) { h.Events = []api.Event{reads(2, 1, 0)} }, -2},
		"its own record unmade":      {together(), func(h *api.History) { h.Events = []api.Event{reads(1, 1, 0)} }, 0},
		"its own among records":      {together(), func(h *api.History) { h.Events = []api.Event{reads(2, 2, 0)} }, 0},
		"the second one unmade":      {erased(), func(h *api.History) { h.Events[1].Have = 2 }, 1},

		"an edit of a Nop":           {erased(), func(h *api.History) { h.Events[2].Op = nop(1, 2) }, 2},
		"a Nop, not in the log":      {alone(), func(h *api.History) { h.Events[1].Op = nop(1, 2) }, 1},
		"an edit of no kind":         {erased(), func(h *api.History) { h.Events[2].Op.Kind = 3 }, 2},
		"a deletion of a character":  {erased(), func(h *api.History) { h.Events[2].Op.Ch = 'x' }, 2},
		"an edit of another":         {together(), func(h *api.History) { h.Events[0].Op.Client = 2 }, 0},
		"another's, not in the log":  {alone(), func(h *api.History) { h.Clients, h.Events[0].Op.Client = 2, 2 }, 0},
		"an edit of another Seq":     {together(), func(h *api.History) { h.Events[0].Op.Seq = 2 }, 0},
		"another Made":               {together(), func(h *api.History) { h.Events[0].Made = 2 }, 0},
		"an edit left out":           {together(), func(h *api.History) { h.Events[0] = makes(0, ins(0, 'x', 1, 2), x) }, 0},
		"an edit made twice":         {alone(), func(h *api.History) { h.Events[1] = h.Events[0] }, 1},
		"an edit with a record":      {erased(), func(h *api.History) { h.Events[2].Have = 2 }, 2},
		"with one, not in the log":   {erased(), func(h *api.History) { h.Log, h.Events[1].Have, h.Events[3].Have = h.Log[:1], 0, 1 }, 2},
		"an edit, and Have back":     {erased(), func(h *api.History) { h.Events[2].Have = 0 }, 2},
		"at first, with a record":    {together(), func(h *api.History) { h.Events[1].Have = 1 }, 1},
		"an insert at the end":       {alone(), func(h *api.History) { h.Events[1].Op.Pos = 1 }, -1},
		"an insert beyond":           {alone(), func(h *api.History) { h.Events[1].Op.Pos = 2 }, 1},
		"an insert beyond no text":   {alone(), func(h *api.History) { h.Events[0].Op.Pos = 1 }, 0},
		"a deletion beyond":          {alone(), func(h *api.History) { h.Events[1].Op = del(1, 1, 2) }, 1},
		"a deletion at the end":      {alone(), func(h *api.History) { h.Events[1].Op = del(0, 1, 2) }, -1},
		"into a text of 4095":        {alone(), func(h *api.History) { h.Events[0].Doc = make([]api.Elem, api.MaxDoc-1) }, -1},
		"into a full text":           {alone(), func(h *api.History) { h.Events[0].Doc = make([]api.Elem, api.MaxDoc) }, 1},
		"by the text shown before":   {erased(), func(h *api.History) { h.Events[1].Doc = nil }, 2},
		"not by its own text":        {erased(), func(h *api.History) { h.Events[2].Doc = []api.Elem{x, x, x} }, -1},
		"another place in the log":   {erased(), func(h *api.History) { h.Log[1].Op.Pos = 1 }, 2},
		"another kind in the log":    {erased(), func(h *api.History) { h.Log[1].Op = ins(0, 'x', 1, 2) }, 2},
		"another letter in the log":  {together(), func(h *api.History) { h.Log[1].Op.Ch = 'z' }, 1},
		"another tag in the log":     {erased(), func(h *api.History) { h.Log[1].Tag = 0 }, 2},
		"not in the log":             {together(), func(h *api.History) { h.Events = append(h.Events, makes(2, ins(2, 'z', 1, 2))) }, -1},
		"a site's event before, far": {together(), func(h *api.History) { h.Events = append(h.Events, makes(1, ins(2, 'z', 2, 2))) }, -1},
	} {
		h := bent(c.h, c.bend)
		switch c.bad {
		case -1:
			wantTaken(t, what, h)
		case -2: // all events can be, but nobody made what is in the log
			wantRefused(t, what, h, 0, api.ErrHistLog)
		default:
			wantRefused(t, what, h, c.bad, api.ErrHistEvent)
		}
	}
}

func steps(h *api.History, list ...int) {
	for i, n := range list {
		h.Events[i].Step = n
	}
}

// TestLogMadeByEvents: the first edit of the log that no event makes is told, behind all that the events are told for.
func TestLogMadeByEvents(t *testing.T) {
	for n, want := range []int{0, 1, 2, 2, 2, -1, -1} {
		h := bent(together(), func(h *api.History) {
			h.Log = append(h.Log, edit(1, ins(0, 'z', 2, 2)))
			h.Events = append(h.Events[:3], reads(1, 2, 1), makes(1, ins(0, 'z', 2, 2)), reads(2, 3, 2))[:n]
		})
		if want < 0 {
			wantTaken(t, "all are made", h)
		} else {
			wantRefused(t, "one is not made", h, want, api.ErrHistLog)
		}
	}
	h := bent(together(), func(h *api.History) { h.Events = append(h.Events[:1], reads(2, 0, 0), reads(7, 0, 0)) })
	wantRefused(t, "an event is told first", h, 2, api.ErrHistEvent)
}

// TestSeenAsks: there must be such an event.
func TestSeenAsks(t *testing.T) {
	for _, i := range []int{-1 << 63, -1, 6, 1<<63 - 1} {
		list, err := history.Seen(together(), i)
		wantError(t, "P14.2: no such event", err, api.Wrap(i, api.ErrHistAsk))
		if len(list) > 0 {
			t.Fatalf("P0.3: beside the error %s", textWord(list))
		}
	}
	_, err := history.Seen(api.History{Clients: 3}, 0)
	wantError(t, "P14.2: no event at all", err, api.Wrap(0, api.ErrHistAsk))
	_, err = history.Seen(api.History{}, -5)
	wantError(t, "P14.2: Check's error first", err, api.Wrap(0, api.ErrHistClients))
}

// TestSeen: what is visible at each event of the examples.
func TestSeen(t *testing.T) {
	for i, want := range [][]api.Elem{{x}, {y}, {x, y}, {x}, {x, y}, {x, y}} {
		wantSeen(t, "example 2", together(), i, want...)
	}
	for i, want := range [][]api.Elem{{x}, {}, {y}, {}, {x, y}} {
		wantSeen(t, "example 5", unmet(), i, want...)
	}
	// The order is that of clients and Seqs, not of places or of the log.
	h := api.History{
		Clients: 3,
		Log:     []api.Edit{edit(0, ins(0, 'w', 3, 1)), edit(0, ins(0, 'a', 1, 1)), edit(0, ins(0, 'b', 1, 2))},
		Events: []api.Event{
			makes(0, ins(0, 'w', 3, 1), w), makes(0, ins(0, 'a', 1, 1), a), makes(0, ins(0, 'b', 1, 2), b, a),
			makes(0, ins(0, 'y', 2, 1), y), reads(2, 3, 1, w, b, a, y), reads(0, 0, 0), reads(0, 1, 0, w), reads(0, 2, 0, w, a), reads(0, 3, 0, w, b, a),
		},
	}
	wantVerdict(t, "three clients", h, 0, 0, 0)
	for i, want := range [][]api.Elem{{w}, {a}, {a, b}, {y}, {a, b, y, w}, {}, {w}, {a, w}, {a, b, w}} {
		wantSeen(t, "three clients", h, i, want...)
	}
}

// TestSeenOfForgedTexts: a deletion takes away what the text before showed at its place, compared as a whole, even if nobody inserted that.
func TestSeenOfForgedTexts(t *testing.T) {
	shown := func(text ...api.Elem) api.History {
		return api.History{Clients: 2, Events: []api.Event{
			makes(0, ins(0, 'a', 1, 1), a), makes(0, ins(1, 'b', 1, 2), text...), makes(0, del(1, 1, 3), a), reads(1, 0, 3, a),
		}}
	}
	wantSeen(t, "the second of two", shown(a, b), 3, a)
	wantSeen(t, "turned round", shown(b, a), 3, b)
	wantSeen(t, "one of two alike", shown(a, a), 3, b)
	wantSeen(t, "another letter", shown(a, el('c', 1, 2)), 3, a, b)
	wantSeen(t, "another Seq", shown(a, el('b', 1, 9)), 3, a, b)
	wantSeen(t, "another client", shown(a, el('b', -7, 2)), 3, a, b)
	wantSeen(t, "another's edit", shown(a, y), 3, a, b)

	// The other client shows, and deletes, what it has not seen yet: as soon as both edits are visible, it is gone.
	h := api.History{
		Clients: 2,
		Log:     []api.Edit{edit(0, del(0, 2, 1)), edit(0, ins(0, 'a', 1, 1))},
		Events:  []api.Event{reads(2, 0, 0, a), makes(0, del(0, 2, 1)), reads(2, 2, 1), reads(0, 1, 0), makes(0, ins(0, 'a', 1, 1), a), reads(1, 1, 1)},
	}
	for i, want := range [][]api.Elem{{}, {}, {}, {}, {a}, {}} {
		wantSeen(t, "deleted ahead of its insertion", h, i, want...)
	}
	wantVerdict(t, "shown ahead of its insertion", h, 2, 0, -1)
}

// TestPathAsks: there must be such a client.
func TestPathAsks(t *testing.T) {
	for _, client := range []int{-1 << 63, -1, 0, 3, 65, 1<<63 - 1} {
		path, err := history.Path(together(), client)
		wantError(t, "P14.3: no such client", err, api.Wrap(client, api.ErrHistAsk))
		if len(path) > 0 {
			t.Fatalf("P0.3: beside the error %v", path)
		}
	}
	_, err := history.Path(api.History{}, 0)
	wantError(t, "P14.3: Check's error first", err, api.Wrap(0, api.ErrHistClients))
	wantPath(t, "nothing ever", api.History{Clients: 64}, 64, "0.0")
}

// TestPath: edits at their tags, records of others carried past what is pending, edits that came into no log.
func TestPath(t *testing.T) {
	h := api.History{
		Clients: 3,
		Log: []api.Edit{
			edit(0, ins(0, 'a', 1, 1)), edit(0, ins(0, 'b', 2, 1)), edit(0, ins(1, 'c', 2, 2)), edit(1, del(0, 1, 2)), edit(2, del(0, 2, 3)),
		},
		Events: []api.Event{
			makes(0, ins(0, 'a', 1, 1), a), makes(0, ins(0, 'b', 2, 1), y), makes(0, ins(1, 'c', 2, 2)), reads(1, 1, 1, a), makes(1, del(0, 1, 2)),
			reads(2, 2, 2, a, a, a), makes(2, del(0, 2, 3)), makes(2, ins(0, 'd', 2, 4)), reads(1, 4, 2, a, a, a), makes(4, ins(1, 'e', 1, 3)),
		},
	}
	wantTaken(t, "tags", h)
	// The log comes to: a, ab, abc, bc (1's deletion of a), bc (2's deletion of a: nothing is left of it).
	wantPath(t, "tags", h, 1, "0.0", "0.1 a", "1.1 a", "1.2", "2.2 b", "3.2 bc", "4.2 bc", "4.3 bec", "5.3 bec")
	wantPath(t, "tags", h, 2, "0.0", "0.1 b", "0.2 bc", "1.2 abc", "2.2 abc", "2.3 bc", "2.4 dbc", "3.4 dbc", "4.4 dbc", "5.4 dbc")
	wantPath(t, "tags", h, 3, "0.0", "1.0 a", "2.0 ab", "3.0 abc", "4.0 bc", "5.0 bc")
}

// TestPathOfForgedTexts: texts that were shown are not looked at, but for whether an edit fits them; one that does not fit the path's text is nothing, for its maker and for all others.
func TestPathOfForgedTexts(t *testing.T) {
	lie := []api.Elem{y, y, y, y}
	h := api.History{
		Clients: 2,
		Log: []api.Edit{
			edit(0, ins(3, 'a', 1, 1)), edit(0, ins(0, 'b', 1, 2)), edit(0, del(4, 1, 3)), edit(0, del(0, 1, 4)), edit(0, ins(0, 'c', 1, 5)), edit(2, ins(1, 'd', 2, 1)),
		},
		Events: []api.Event{
			reads(1, 0, 0, lie...), makes(0, ins(3, 'a', 1, 1), lie...), makes(0, ins(0, 'b', 1, 2), append(lie, lie...)...), makes(0, del(4, 1, 3), lie...),
			makes(0, del(0, 1, 4), lie...), makes(0, ins(0, 'c', 1, 5), lie...), reads(2, 2, 0, lie...), makes(2, ins(1, 'd', 2, 1)), makes(2, ins(0, 'e', 2, 2)),
		},
	}
	wantPath(t, "a and the first deletion do not fit", h, 1, "0.0", "0.1", "0.2 b", "0.3 b", "0.4", "0.5 c", "1.5 c", "2.5 c", "3.5 c", "4.5 c", "5.5 c", "6.5 cd")
	wantPath(t, "a and the first deletion do not fit", h, 2, "0.0", "1.0", "2.0 b", "2.1 bd", "2.2 ebd", "3.2 ebd", "4.2 ed", "5.2 ced", "6.2 ced")
	wantSide(t, "a is in no state", h, el('a', 1, 1), el('b', 1, 2), 0)
	wantSide(t, "b and c stand in none together", h, el('b', 1, 2), el('c', 1, 5), 0)
	wantSide(t, "b and d do", h, el('b', 1, 2), el('d', 2, 1), 1)
	wantSide(t, "c and d do", h, el('c', 1, 5), el('d', 2, 1), 1)
	wantVerdict(t, "the first lie", h, 2, 0, -1)
}

// TestAheadAsks: both elements must have been made, and be two.
func TestAheadAsks(t *testing.T) {
	strange := el('z', 1, 1)
	for what, c := range map[string]struct {
		one, two api.Elem
		at       int
	}{
		"the first is not made":     {w, x, 0},
		"the second is not made":    {x, w, 1},
		"neither is made":           {w, strange, 0},
		"the same, not made":        {w, w, 0},
		"the same":                  {x, x, 1},
		"another letter":            {strange, y, 0},
		"another letter, second":    {y, strange, 1},
		"another Seq":               {el('x', 1, 2), y, 0},
		"another client":            {el('x', 2, 1), y, 0},
		"no client":                 {x, el('x', -1, 1), 1},
		"no letter, of a deletion":  {api.Elem{Client: 1, Seq: 2}, y, 0},
		"no element at all, second": {y, api.Elem{}, 1},
	} {
		side, err := history.Ahead(unmet(), c.one, c.two)
		wantError(t, "P14.4: "+what, err, api.Wrap(c.at, api.ErrHistAsk))
		if side != 0 {
			t.Fatalf("P0.3: %s: beside the error %d", what, side)
		}
	}
	// To have been shown, and deleted, is not to have been made.
	shown := api.History{Clients: 1, Events: []api.Event{makes(0, ins(0, 'a', 1, 1), a, y), makes(0, del(1, 1, 2), a)}}
	_, err := history.Ahead(shown, y, a)
	wantError(t, "P14.4: shown and deleted", err, api.Wrap(0, api.ErrHistAsk))
	_, err = history.Ahead(shown, a, y)
	wantError(t, "P14.4: shown and deleted", err, api.Wrap(1, api.ErrHistAsk))
	_, err = history.Ahead(api.History{}, x, x)
	wantError(t, "P14.4: Check's error first", err, api.Wrap(0, api.ErrHistClients))
}

// TestAhead: the element that a deletion takes away counts as made by its insertion alone; what no state shows together stands nowhere.
func TestAhead(t *testing.T) {
	wantSide(t, "example 2", together(), x, y, 1)
	wantSide(t, "three clients", withThird(x, y, w), x, w, 1)
	wantSide(t, "three clients", withThird(x, y, w), w, y, -1)
	apart := bent(unmet(), func(h *api.History) {
		h.Log = []api.Edit{h.Log[0], h.Log[2], h.Log[1], h.Log[3]}
		h.Events = h.Events[:4]
	})
	wantSide(t, "never together", apart, x, y, 0)
	// Client 2's edit is in no log: it stands beside x on client 2's path alone.
	unlogged := bent(together(), func(h *api.History) { h.Log, h.Events = h.Log[:1], h.Events[:2] })
	wantSide(t, "not in the log", unlogged, x, y, 1)
	unlogged.Log = nil
	wantSide(t, "neither is in the log", unlogged, x, y, 0)
	// The texts that were shown do not count.
	wantSide(t, "shown otherwise", with(with(together(), 2, y, x), 4, y, x), x, y, 1)
	// What stands in a text of the past alone counts.
	gone := bent(together(), func(h *api.History) { h.Events = append(h.Events, makes(2, del(0, 1, 2), y), makes(2, del(0, 1, 3))) })
	wantSide(t, "both are gone at last", gone, x, y, 1)
}
