package lit

import (
	"elenchus/api"
	"elenchus/weigh"
)

// trueHead is the number of $true in every valid signature.
const trueHead = 0

// claim is a literal with the signature that it is held against.
type claim struct {
	sig []api.Sym
	lit api.Lit
}

// firstError makes the tests one by one, and none behind the first that fails.
func firstError(c claim, tests ...func(claim) api.Errno) api.Errno {
	for _, test := range tests {
		if err := test(c); err != api.OK {
			return err
		}
	}
	return api.OK
}

func (c claim) left() api.Errno { return weigh.Term(c.sig, c.lit.L) }

func (c claim) right() api.Errno { return weigh.Term(c.sig, c.lit.R) }

// sorts may be called only when both sides have no fault by themselves: it takes their symbols to be in the signature.
func (c claim) sorts() api.Errno {
	switch {
	case c.isAtom(c.lit.L) && c.lit.R.Head == trueHead:
		return api.OK
	case c.isAtom(c.lit.L) || c.isAtom(c.lit.R):
		return api.ErrSort
	}
	return api.OK
}

func (c claim) isAtom(t api.Term) bool { return t.Head >= 0 && c.sig[t.Head].Truth }
