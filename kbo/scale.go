package kbo

import (
	"cmp"

	"elenchus/api"
)

// variableWeight is what layer 7 lets each variable weigh.
const variableWeight = 1

// scale holds the difference of two terms over a valid signature.
type scale struct {
	sig    []api.Sym
	weight int         // by how much the first term is heavier
	counts map[int]int // by how much more often a variable, told by its Head, occurs in the first term
}

// compare is Compare for terms without errors.
func compare(g []api.Sym, a, b api.Term) int {
	s := scale{sig: g, counts: map[int]int{}}
	return s.compare(a, b)
}

// compare puts on an empty scale all in which two terms may differ, and tells which one is greater.
// What is the same in both is left out, so the scale is still empty when the first Args that are not the same are compared; the Args behind these are added afterwards. So each subterm is weighed once only, however deep the difference is.
// It calls itself at most MaxDepth levels deep.
func (s *scale) compare(a, b api.Term) int {
	if a.Head != b.Head {
		s.add(a, b)
		return s.decide(byHead(a, b))
	}
	order := api.Equal
	for i := range len(a.Args) {
		if order == api.Equal {
			order = s.compare(a.Args[i], b.Args[i])
		} else {
			s.add(a.Args[i], b.Args[i])
		}
	}
	return s.decide(order)
}

func byHead(a, b api.Term) int {
	if a.Head < 0 || b.Head < 0 {
		return api.None
	}
	return cmp.Compare(a.Head, b.Head)
}

// decide tells which term is greater, where order tells it of terms of the same weight.
func (s *scale) decide(order int) int {
	if s.weight != 0 {
		order = cmp.Compare(s.weight, 0)
	}
	for _, n := range s.counts {
		if order == api.More && n < 0 || order == api.Less && n > 0 {
			return api.None
		}
	}
	return order
}

// add puts a on the first side of the scale, and b on the second one.
func (s *scale) add(a, b api.Term) {
	s.put(a, 1)
	s.put(b, -1)
}

// put adds a term so many times.
func (s *scale) put(t api.Term, times int) {
	if t.Head < 0 {
		s.weight += times * variableWeight
		s.counts[t.Head] += times
		return
	}
	s.weight += times * s.sig[t.Head].Weight
	for i := range len(t.Args) {
		s.put(t.Args[i], times)
	}
}
