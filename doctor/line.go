package doctor

import (
	"strconv"
	"strings"

	"jotter/api"
	"jotter/book"
	"jotter/wire"
)

const (
	lineEnd   = '\n'
	mostWords = 6 // of a line: an Insert's verb and numbers
)

// tell gives an item's line, without its line end. An Insert is told as a Delete is, with its character ahead of who made it.
func tell(x api.Item) string {
	verb, numbers := "del", []int{x.Tag, x.Op.Pos}
	switch x.Op.Kind {
	case api.Insert:
		verb = "ins"
		numbers = append(numbers, int(x.Op.Ch))
		fallthrough
	case api.Delete:
		numbers = append(numbers, x.Op.Client, x.Op.Seq)
	default: // an item without an edit
		verb, numbers = "boot", []int{x.Epoch}
	}
	line := verb
	for _, n := range numbers {
		line += " " + strconv.Itoa(n)
	}
	return line
}

// read gives the item that a line tells; false: no item is told so. What the words come to may be read too kindly (a sign, a zero ahead, a character beyond a byte, no number at all): such an item is told by another line.
func read(line string) (api.Item, bool) {
	words := strings.SplitN(line, " ", mostWords+1)
	n := numbersOf(words[1:])
	x := api.Item{Kind: api.LEdit}
	switch {
	case words[0] == "boot" && len(n) == 1:
		x = api.Item{Kind: api.LBoot, Epoch: n[0]}
	case words[0] == "ins" && len(n) == 5:
		x.Tag, x.Op = n[0], api.Op{Kind: api.Insert, Pos: n[1], Ch: byte(n[2]), Client: n[3], Seq: n[4]}
	case words[0] == "del" && len(n) == 4:
		x.Tag, x.Op = n[0], api.Op{Kind: api.Delete, Pos: n[1], Client: n[2], Seq: n[3]}
	default:
		return api.Item{}, false
	}
	_, err := wire.EncodeItem(x)
	return x, err == nil && tell(x) == line
}

// numbersOf gives the words' numbers, some number for a word that is none.
func numbersOf(words []string) []int {
	numbers := make([]int, len(words))
	for i, w := range words {
		numbers[i], _ = strconv.Atoi(w)
	}
	return numbers
}

// takeLine adds the item that a line tells to the log.
func takeLine(log *book.Book, line string) api.Errno {
	x, ok := read(line)
	if !ok {
		return api.ErrLoad
	}
	if take(log, x) != api.OK {
		return api.ErrFits
	}
	return api.OK
}
