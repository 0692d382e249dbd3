package search

import "jotter/api"

// isPattern tells whether a string may be looked for.
func isPattern(s string) bool { return s != "" && isFilling(s) }

// isFilling tells whether a string may be put into a text. Each byte of one that may is a character: so its length counts them. (Bytes that are no text at all range as a rune above all characters.)
func isFilling(s string) bool {
	for _, ch := range s {
		if ch < api.LeastCh || ch > api.MostCh {
			return false
		}
	}
	return len(s) <= api.MaxNeedle
}

// places gives the places from pos on at which the pattern stands, rising, up to most of them. It goes through the text once, whatever the pattern: bit i of held tells whether the last i+1 characters are the pattern's first i+1 (MaxNeedle is how many bits there are), so that it matters neither how places lie over one another nor where a piece ends.
func (p pieces) places(pattern string, pos int, most int) []int {
	var marks [256]uint64 // of each character: at which places of the pattern it is
	for i, ch := range pattern {
		marks[ch] |= 1 << i
	}
	var found []int
	var held uint64
	last := len(pattern) - 1
search:
	for begin, piece := range p.from(pos) {
		for i, ch := range piece {
			held = (held<<1 | 1) & marks[ch]
			if held>>last == 0 {
				continue
			}
			found = append(found, begin+i-last)
			if len(found) == most {
				break search
			}
		}
	}
	return found
}

// apart gives those of the places, from the left, that lie over none ahead of them that was taken, if each is so long.
func apart(places []int, long int) []int {
	var taken []int
	free := 0
	for _, place := range places {
		if place >= free {
			taken = append(taken, place)
			free = place + long
		}
	}
	return taken
}

// swaps gives the operations that put by in place of the pattern at those places. Each place has moved by what those ahead of it have changed.
func swaps(places []int, pattern string, by string, client int, first int) []api.Op {
	var ops []api.Op
	tell := func(op api.Op) {
		op.Client, op.Seq = client, first+len(ops)
		ops = append(ops, op)
	}
	for k, place := range places {
		at := place + k*(len(by)-len(pattern))
		for range pattern {
			tell(api.Op{Kind: api.Delete, Pos: at})
		}
		for i, ch := range by {
			tell(api.Op{Kind: api.Insert, Pos: at + i, Ch: byte(ch)})
		}
	}
	return ops
}

func isNoLetter(ch rune) bool { return (ch < 'a' || ch > 'z') && (ch < 'A' || ch > 'Z') }
