package infer

import (
	"slices"

	"elenchus/api"
	"elenchus/clause"
	"elenchus/lit"
)

// Harvest is the conclusions of inferences, and the number of those that are lost.
type Harvest struct {
	Got  []api.Got
	Lost int
}

// Lose counts a conclusion that is lost.
func (h *Harvest) Lose() { h.Lost++ }

// Conclude keeps what a clause made of valid premises becomes by the substitution of the inference, with all else that is told of it; if that exceeds a limit, it is lost.
func (h *Harvest) Conclude(described []api.Lit, made api.Got) {
	c, err := conclusion(described, made.By)
	// Its literals are valid, but two premises may have too many of them.
	if err != api.OK || len(c) > api.MaxLits {
		h.Lose()
		return
	}
	made.Clause = c
	h.Got = append(h.Got, made)
}

// conclusion is what the document calls so. The literals are counted only when it is made, so that here there may be more than clause's Apply takes.
func conclusion(described []api.Lit, by []api.Bind) ([]api.Lit, api.Errno) {
	applied := make([]api.Lit, len(described))
	for i, l := range described {
		var err api.Errno
		if applied[i], err = lit.Apply(by, l); err != api.OK {
			return nil, err
		}
	}
	return clause.Norm(clause.Tidy(applied))
}

// Without is a clause without the literal i, in a list of its own.
func Without(c []api.Lit, i int) []api.Lit {
	return slices.Concat(c[:i], c[i+1:])
}
