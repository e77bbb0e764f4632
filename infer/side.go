// Package infer holds what inferences from one clause and from two have in common: sides of literals, conclusions, and the count of those that are lost. It is for layers 12 and 13: see shared/doc/12-resolve.md.
package infer

import (
	"iter"

	"elenchus/api"
	"elenchus/kbo"
	"elenchus/subst"
)

// Side is a side of a literal, with the other side.
type Side struct {
	Of          int // the literal's index
	Place       int // 0: L, 1: R
	Term, Other api.Term
}

// Sides yields both sides of the literal i, L before R.
func Sides(c []api.Lit, i int) iter.Seq[Side] {
	l := c[i]
	return func(yield func(Side) bool) {
		_ = yield(Side{i, 0, l.L, l.R}) && yield(Side{i, 1, l.R, l.L})
	}
}

// MayLead reports whether a substitution, by which the valid literal stays valid, leaves the side neither less than the other one nor the same.
func (s Side) MayLead(g []api.Sym, by []api.Bind) bool {
	// Sides of a valid literal have no error to tell.
	term, _ := subst.Apply(by, s.Term)
	other, _ := subst.Apply(by, s.Other)
	order, _ := kbo.Compare(g, term, other)
	return order != api.Less && order != api.Equal
}

// Together reports whether two terms over a signature are both individuals, or both atoms other than $true.
func Together(g []api.Sym, s, u api.Term) bool {
	return !isTrue(s) && !isTrue(u) && IsAtom(g, s) == IsAtom(g, u)
}

// IsAtom reports whether a term over a signature is an atom.
func IsAtom(g []api.Sym, t api.Term) bool { return t.Head >= 0 && g[t.Head].Truth }

// isTrue reports whether a term is $true, which is the first symbol of every signature.
func isTrue(t api.Term) bool { return t.Head == 0 }
