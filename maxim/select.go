package maxim

import (
	"elenchus/api"
	"elenchus/weigh"
)

// selection lists the indices of the selected literals of a valid clause.
type selection func(g []api.Sym, c []api.Lit) []int

// selections keeps each selection under the number that api has for it.
func selections() [3]selection {
	return [...]selection{
		api.SelectNone:  none,
		api.SelectFirst: firstNegative,
		api.SelectHeavy: heaviestNegative,
	}
}

func none([]api.Sym, []api.Lit) []int { return nil }

func firstNegative(_ []api.Sym, c []api.Lit) []int {
	if i, ok := negatives(c)(); ok {
		return []int{i}
	}
	return nil
}

func heaviestNegative(g []api.Sym, c []api.Lit) []int {
	var heaviest []int
	// No literal is without weight, so that the first negative one exceeds this.
	greatest := 0
	next := negatives(c)
	for i, ok := next(); ok; i, ok = next() {
		if weight := weightOf(g, c[i]); weight > greatest {
			heaviest, greatest = []int{i}, weight
		}
	}
	return heaviest
}

// negatives makes a function that answers the index of the next negative literal at each call, and false when there is none left.
func negatives(c []api.Lit) func() (int, bool) {
	i := -1
	return func() (int, bool) {
		for i++; i < len(c); i++ {
			if c[i].Neg {
				return i, true
			}
		}
		return 0, false
	}
}

// weightOf is the sum of the weights of both sides of a valid literal.
func weightOf(g []api.Sym, l api.Lit) int {
	// Sides of a valid literal have no error to tell.
	left, _ := weigh.Weight(g, l.L)
	right, _ := weigh.Weight(g, l.R)
	return left + right
}
