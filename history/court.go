package history

import (
	"cmp"
	"sync"

	"jotter/api"
	"jotter/doc"
)

// The rules of a history.
const (
	notMade     = 1 + iota // a text is not what the edit makes of the one before
	notSeen                // a text does not hold just the visible elements
	notSame                // two texts of the same edits are not the same
	turnedRound            // two texts hold two elements in unlike orders
	offPath                // a text is not that of the state on the site's path
)

// court judges a history by workers, one a site, who share one answer.
type court struct {
	paths
	mutex sync.Mutex
	least api.Verdict
}

// atEachSite lets a worker work for each site, and waits until all have ended.
func (c *court) atEachSite(work func(site int)) {
	var working sync.WaitGroup
	for site := server; site <= c.Clients; site++ {
		working.Add(1)
		go func() {
			defer working.Done()
			work(site)
		}()
	}
	working.Wait()
}

// charge says that a rule is broken. What stays is the least event, of that the least rule, of that the least Other: so it does not matter who comes first.
func (c *court) charge(rule, event, other int) {
	v := api.Verdict{Rule: rule, Event: event, Other: other}
	c.mutex.Lock()
	defer c.mutex.Unlock()
	if c.least.Rule == 0 || isLess(v, c.least) {
		c.least = v
	}
}

func isLess(a, b api.Verdict) bool {
	return cmp.Or(cmp.Compare(a.Event, b.Event), cmp.Compare(a.Rule, b.Rule), cmp.Compare(a.Other, b.Other)) < 0
}

// walk goes along a site's path, and looks at each of its texts by itself, up to the first that breaks a rule. No text is left over: Check lets through only events whose states are on the path, in their order there.
func (c *court) walk(site int) {
	s := newSight()
	before, rest := none, c.shown[site]
	for op, v := range c.states(site) {
		if op != (api.Op{}) {
			s.see(c.deed(op))
		}
		for ; len(rest) > 0 && isAt(c.Events[rest[0]], v); before, rest = rest[0], rest[1:] {
			if c.isBroken(rest[0], before, s, v) {
				return
			}
		}
		if len(rest) == 0 {
			return
		}
	}
}

// isAt tells whether an event shows that state.
func isAt(e api.Event, v api.View) bool { return e.Have == v.Have && e.Made == v.Made }

// isBroken holds event i against the rules for which no other site's text is needed, and charges the first that is broken.
func (c *court) isBroken(i, before int, s *sight, v api.View) bool {
	e := c.Events[i]
	switch {
	case makes(e) && !isMade(c.event(before).Doc, e):
		c.charge(notMade, i, before)
	case !s.isJust(e.Doc, i+1):
		c.charge(notSeen, i, none)
	case !doc.Equal(e.Doc, v.Doc):
		c.charge(offPath, i, none)
	default:
		return false
	}
	return true
}

// isMade tells whether an edit event shows what its operation makes of the text before. The operation fits: Check has seen to that.
func isMade(before []api.Elem, e api.Event) bool {
	text, _ := doc.Apply(before, e.Op)
	return doc.Equal(text, e.Doc)
}

// holdAgainst holds the text of event i against all earlier ones. It holds each of its elements once, and so do they.
func (c *court) holdAgainst(i int) {
	places := map[api.Elem]int{}
	for place, x := range c.Events[i].Doc {
		places[x] = place
	}
	c.atEachSite(func(site int) {
		order := ahead{}
		for _, j := range c.shown[site] {
			if j >= i {
				break
			}
			if c.extent(j) == c.extent(i) && !doc.Equal(c.Events[j].Doc, c.Events[i].Doc) {
				c.charge(notSame, i, j)
			}
			order.add(c.Events[j].Doc, places, j)
		}
		for p, j := range order {
			if places[p.left] > places[p.right] {
				c.charge(turnedRound, i, j)
			}
		}
	})
}

// extent names a set of visible edits: the longest beginning of the log that is in it, and how many edits a client has made, if some of them are not in that beginning. Two events have the same set just if they have the same extent.
type extent struct{ have, client, made int }

// extent gives the extent of the edits that are visible at event i.
func (c *court) extent(i int) extent {
	e := c.Events[i]
	own := c.logged[e.Site]
	have := e.Have
	for have < len(c.Log) && c.Log[have].Op.Client == e.Site && c.Log[have].Op.Seq <= e.Made {
		have++
	}
	if e.Made == 0 || e.Made <= len(own) && own[e.Made-1] < have {
		return extent{have: have}
	}
	return extent{have, e.Site, e.Made}
}

// pair is two elements, one of which stands left of the other.
type pair struct{ left, right api.Elem }

// ahead tells who stands ahead of whom, and at which event first. It knows of neighbours alone: if two texts have two elements in unlike orders, then they have two that are neighbours in one of them, all those left out that the other does not hold.
type ahead map[pair]int

// add takes in the text of event j, which is later than those before, as far as its elements have places.
func (a ahead) add(text []api.Elem, places map[api.Elem]int, j int) {
	left := none
	for i, x := range text {
		if _, there := places[x]; !there {
			continue
		}
		if left != none {
			a.note(pair{text[left], x}, j)
		}
		left = i
	}
}

// note keeps the first event at which a pair stood so.
func (a ahead) note(p pair, j int) {
	if _, known := a[p]; !known {
		a[p] = j
	}
}
