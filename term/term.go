// Package term checks, measures and compares terms. It is layer 1: see shared/doc/01-term.md.
package term

import (
	"cmp"
	"slices"

	"elenchus/api"
)

// Check tells the first fault of a term, in the order ErrLong, ErrDeep, ErrArg; OK: the term is valid.
func Check(t api.Term) api.Errno {
	size, depth, wrong := 0, 0, false
	for level, s := range subterms(t) {
		size++
		// Lists that are shared can make a term far greater than its memory: the visit ends as soon as the answer is known.
		if size > api.MaxNodes {
			return api.ErrLong
		}
		depth = max(depth, level)
		wrong = wrong || !allowed(s)
	}
	if depth > api.MaxDepth {
		return api.ErrDeep
	}
	if wrong {
		return api.ErrArg
	}
	return api.OK
}

// allowed reports whether a subterm, apart from its Args, is one that a valid term may have.
func allowed(s api.Term) bool {
	if isVariable(s) {
		return len(s.Args) == 0 && variable(s) <= api.MaxVar
	}
	return s.Head <= api.MaxHead && len(s.Args) <= api.MaxArity
}

func isVariable(t api.Term) bool { return t.Head < 0 }

// variable is the number of a variable; no Head below 0 overflows here.
func variable(t api.Term) int { return -1 - t.Head }

// Size is the number of subterms, counted with repetition.
func Size(t api.Term) int {
	size := 0
	for range subterms(t) {
		size++
	}
	return size
}

// Depth is the number of terms, each in the one before, on the longest way down.
func Depth(t api.Term) int {
	depth := 0
	for level := range subterms(t) {
		depth = max(depth, level)
	}
	return depth
}

// Vars lists the numbers of the variables, each once, in the order of their first occurrences.
func Vars(t api.Term) []int {
	var vars []int
	seen := map[int]struct{}{}
	for _, s := range subterms(t) {
		if !isVariable(s) {
			continue
		}
		v := variable(s)
		if _, old := seen[v]; !old {
			seen[v] = struct{}{}
			vars = append(vars, v)
		}
	}
	return vars
}

// Copy returns the same term in new memory.
func Copy(t api.Term) api.Term {
	root := []api.Term{t}
	// The lists on the stack are new already; those of their elements' Args are still the old ones.
	stack := [][]api.Term{root}
	for len(stack) > 0 {
		last := len(stack) - 1
		list := stack[last]
		stack = stack[:last]
		for i := range list {
			list[i].Args = slices.Clone(list[i].Args)
			if len(list[i].Args) > 0 {
				stack = append(stack, list[i].Args)
			}
		}
	}
	return root[0]
}

// Same reports whether two terms are equal in all their subterms.
func Same(a api.Term, b api.Term) bool {
	return len(untilDifference(a, b)) == 0
}

// Compare is the total order by Size, then Head, then number of Args, then the first Args that are not the Same.
func Compare(a api.Term, b api.Term) int {
	way := untilDifference(a, b)
	if len(way) == 0 {
		return 0
	}
	last := &way[len(way)-1]
	x, y := last.a[0], last.b[0]
	last.a, last.b = last.a[1:], last.b[1:]
	greater := Size(x) - Size(y)
	order := cmp.Or(cmp.Compare(greater, 0), cmp.Compare(x.Head, y.Head), cmp.Compare(len(x.Args), len(y.Args)))
	// The terms around x and y differ only in x, y and what stands to their right, so their sizes need not be counted anew on each level; the outermost difference of sizes decides.
	for _, p := range slices.Backward(way) {
		greater += sizeOfAll(p.a) - sizeOfAll(p.b)
		order = cmp.Or(cmp.Compare(greater, 0), order)
	}
	return order
}

func sizeOfAll(list []api.Term) int {
	size := 0
	for _, t := range list {
		size += Size(t)
	}
	return size
}
