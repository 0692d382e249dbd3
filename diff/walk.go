package diff

import "jotter/api"

// lengths holds at [i][j] how long a longest common part is of what is left of the one text from i on, and of the other from j on. The last row and column are the texts' ends: nothing is common there.
type lengths [api.MaxDiff + 1][api.MaxDiff + 1]uint16

// commonLengths fills the rows from the texts' ends on, because each rest builds on shorter ones.
func commonLengths(a, b string) *lengths {
	most := new(lengths)
	for i := len(a) - 1; i >= 0; i-- {
		for j := len(b) - 1; j >= 0; j-- {
			if a[i] == b[j] {
				most[i][j] = most[i+1][j+1] + 1
			} else {
				most[i][j] = max(most[i+1][j], most[i][j+1])
			}
		}
	}
	return most
}

// apart tells how many steps change something, without a walk: what is not common is taken out of a or put in from b.
func apart(a, b string, most *lengths) int {
	return len(a) + len(b) - 2*int(most[0][0])
}

// The ways of a step.
const (
	keep = iota
	takeOut
	putIn
)

// step is what happens to one character.
type step struct {
	way int
	ch  byte
}

// walk gives the steps that turn a into b. Equal characters are kept always, and taking out goes ahead of putting in: so of all shortest walks it is just one.
func walk(a, b string, most *lengths) []step {
	var steps []step
	i, j := 0, 0
	for i < len(a) || j < len(b) {
		switch {
		case i < len(a) && j < len(b) && a[i] == b[j]:
			steps = append(steps, step{keep, a[i]})
			i++
			j++
		case i < len(a) && most[i+1][j] == most[i][j]:
			steps = append(steps, step{takeOut, a[i]})
			i++
		default:
			steps = append(steps, step{putIn, b[j]})
			j++
		}
	}
	return steps
}
