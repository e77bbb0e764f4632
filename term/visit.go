package term

import (
	"iter"

	"elenchus/api"
)

// subterms yields every subterm with its level (1 for the term itself), a term before its Args and these from left to right.
// The stack holds what is left of each list on the way down, so that a long list is not copied and a visit may end early.
func subterms(t api.Term) iter.Seq2[int, api.Term] {
	return func(yield func(int, api.Term) bool) {
		stack := [][]api.Term{{t}}
	visit:
		for len(stack) > 0 {
			level := len(stack)
			list := stack[level-1]
			for i, s := range list {
				if !yield(level, s) {
					break visit
				}
				if len(s.Args) > 0 {
					stack[level-1] = list[i+1:]
					stack = append(stack, s.Args)
					continue visit
				}
			}
			stack = stack[:level-1]
		}
	}
}

// pair is two lists of the same length, still to be compared element by element.
type pair struct {
	a, b []api.Term
}

// untilDifference visits two terms in step, up to the first subterms with another Head or number of Args.
// The last pair of its result begins with these two; the pairs before it hold what stands to the right of the way there, the outermost first.
// The result is empty if there is no difference.
func untilDifference(a api.Term, b api.Term) []pair {
	stack := []pair{{[]api.Term{a}, []api.Term{b}}}
visit:
	for len(stack) > 0 {
		last := len(stack) - 1
		p := stack[last]
		for i, x := range p.a {
			y := p.b[i]
			if x.Head != y.Head || len(x.Args) != len(y.Args) {
				stack[last] = pair{p.a[i:], p.b[i:]}
				break visit
			}
			if len(x.Args) > 0 {
				stack[last] = pair{p.a[i+1:], p.b[i+1:]}
				stack = append(stack, pair{x.Args, y.Args})
				continue visit
			}
		}
		stack = stack[:last]
	}
	return stack
}
