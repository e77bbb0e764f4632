package resolve

import (
	"iter"

	"elenchus/api"
)

// side is a side of a literal, with the other side and the literal's index.
type side struct {
	of          int
	term, other api.Term
}

// sides yields both sides of the literal i, L before R.
func sides(c []api.Lit, i int) iter.Seq[side] {
	l := c[i]
	return func(yield func(side) bool) {
		_ = yield(side{i, l.L, l.R}) && yield(side{i, l.R, l.L})
	}
}
