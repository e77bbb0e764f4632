package resolve

import (
	"slices"

	"elenchus/api"
	"elenchus/clause"
)

// harvest is the conclusions of a clause, and the number of those that are lost.
type harvest struct {
	got  []api.Got
	lost int
}

func (h *harvest) lose() { h.lost++ }

// conclude keeps a clause made of sides of a premise that stays valid under the substitution.
func (h *harvest) conclude(c []api.Lit, lits [2]int, by []api.Bind) {
	// All sides stay valid, so that neither call has an error to tell, and the conclusion is valid too.
	applied, _ := clause.Apply(by, c)
	conclusion, _ := clause.Norm(clause.Tidy(applied))
	h.got = append(h.got, api.Got{Clause: conclusion, Lits: lits, By: by})
}

// without is a clause without the literal i, in a list of its own.
func without(c []api.Lit, i int) []api.Lit {
	return slices.Concat(c[:i], c[i+1:])
}
