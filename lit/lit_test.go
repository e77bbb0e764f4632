package lit

import (
	"cmp"
	"math"
	"slices"
	"testing"

	"elenchus/api"
	"elenchus/kbo"
	"elenchus/subst"
	"elenchus/term"
)

func fun(head int, args ...api.Term) api.Term { return api.Term{Head: head, Args: args} }

func x(n int, args ...api.Term) api.Term { return api.Term{Head: -1 - n, Args: args} }

func eq(l, r api.Term) api.Lit { return api.Lit{L: l, R: r} }

func ne(l, r api.Term) api.Lit { return api.Lit{Neg: true, L: l, R: r} }

// holds and denied state an atom and its negation.

func holds(atom api.Term) api.Lit { return eq(atom, fun(0)) }

func denied(atom api.Term) api.Lit { return ne(atom, fun(0)) }

// chain is f(f(.. (end))), of n levels above the end.
func chain(n int, end api.Term) api.Term {
	for range n {
		end = fun(3, end)
	}
	return end
}

// doubled is a full binary tree of n levels above the end, its lists shared on every level.
func doubled(n int, end api.Term) api.Term {
	for range n {
		end = fun(4, end, end)
	}
	return end
}

// broad is a flat term of n symbols with seven arguments each; its size is 7 * n + 1, if that of the leaf is 1.
func broad(n int, leaf api.Term) api.Term { return broadFrom(0, n, leaf) }

// broadFrom is the ith subterm, counted level by level.
func broadFrom(i, n int, leaf api.Term) api.Term {
	if i >= n {
		return leaf
	}
	t := fun(5)
	for k := range 7 {
		t.Args = append(t.Args, broadFrom(7*i+1+k, n, leaf))
	}
	return t
}

// endless holds itself.
func endless() api.Term {
	args := make([]api.Term, 1)
	args[0] = fun(3, args...)
	return args[0]
}

// toy: 1 and 2 are a and b, 3 to 5 are f, g and w, of one, two and seven arguments; 6 to 8 are the predicates p, q and r, of one, two and no arguments; 9 is c, heavier than the others.
func toy() []api.Sym {
	return []api.Sym{{Name: "$true", Weight: 1, Truth: true}, {Name: "a", Weight: 1}, {Name: "b", Weight: 1},
		{Name: "f", Arity: 1, Weight: 1}, {Name: "g", Arity: 2, Weight: 1}, {Name: "w", Arity: 7, Weight: 1},
		{Name: "p", Arity: 1, Weight: 1, Truth: true}, {Name: "q", Arity: 2, Weight: 1, Truth: true}, {Name: "r", Weight: 1, Truth: true},
		{Name: "c", Weight: 5}}
}

// wrongSignatures are some that are not valid.
func wrongSignatures() [][]api.Sym {
	with := func(at int, s api.Sym) []api.Sym {
		g := toy()
		g[at] = s
		return g
	}
	return [][]api.Sym{nil, {}, toy()[1:], with(0, api.Sym{Name: "$true", Weight: 1}), with(1, api.Sym{Name: "b", Weight: 1}),
		with(1, api.Sym{Weight: 1}), with(1, api.Sym{Name: "a"}), with(3, api.Sym{Name: "f", Arity: 9, Weight: 1}), append(toy(), make([]api.Sym, 300)...)}
}

type faulty struct {
	name string
	term api.Term
	err  api.Errno
}

// faults are terms of every kind that is not valid over the toy, with the errors of layer 7's Term.
func faults() []faulty {
	a := fun(1)
	return []faulty{
		{"no symbol", fun(10), api.ErrArg},
		{"no symbol inside", fun(4, a, fun(10)), api.ErrArg},
		{"too few arguments", fun(4, a), api.ErrArg},
		{"an argument of $true", fun(0, a), api.ErrArg},
		{"variable 256", x(256), api.ErrArg},
		{"a variable with an argument", fun(3, x(0, a)), api.ErrArg},
		{"an atom inside", fun(3, fun(6, a)), api.ErrSort},
		{"$true inside", fun(6, fun(0)), api.ErrSort},
		{"too deep", chain(40, a), api.ErrDeep},
		{"too long", broad(58, a), api.ErrLong},
		{"shared without measure", doubled(300, a), api.ErrLong},
		{"no end", endless(), api.ErrLong},
	}
}

// individuals are of each kind, and the longest and the deepest ones.
func individuals() []api.Term {
	return []api.Term{x(0), x(1), x(255), fun(1), fun(2), fun(9), fun(3, x(0)), fun(3, x(1)), fun(3, fun(1)), fun(4, x(0), x(1)), fun(4, x(1), x(0)),
		fun(4, fun(3, x(0)), fun(1)), broad(57, x(0)), broad(57, fun(2)), chain(39, x(1)), chain(39, fun(1))}
}

func atoms() []api.Term {
	return []api.Term{fun(0), fun(8), fun(6, x(0)), fun(6, fun(1)), fun(6, fun(3, x(1))), fun(7, x(0), x(1)), fun(7, x(1), x(0)), fun(7, fun(2), fun(1)), fun(6, broad(56, x(0))), fun(6, chain(38, fun(2)))}
}

// valid are literals without errors: all equations of the individuals, and all atoms stated, both negative and not.
func valid() []api.Lit {
	var list []api.Lit
	for _, l := range individuals() {
		for _, r := range individuals() {
			list = append(list, eq(l, r), ne(l, r))
		}
	}
	for _, l := range atoms() {
		list = append(list, holds(l), denied(l))
	}
	return list
}

// zero reports whether a literal is one that stands beside an error.
func zero(l api.Lit) bool {
	return !l.Neg && l.L.Head == 0 && len(l.L.Args) == 0 && l.R.Head == 0 && len(l.R.Args) == 0
}

// identical is narrower than the document's Same: the sides are in the same order too.
func identical(a, b api.Lit) bool {
	return a.Neg == b.Neg && term.Same(a.L, b.L) && term.Same(a.R, b.R)
}

func copied(l api.Lit) api.Lit {
	return api.Lit{Neg: l.Neg, L: term.Copy(l.L), R: term.Copy(l.R)}
}

// turned is what is told when both literals are exchanged.
func turned(order int) int {
	if order == 2 {
		return 2
	}
	return -order
}

// The document's words, one by one, to hold the package against.

func plainTerms(l api.Lit) []api.Term {
	if l.Neg {
		return []api.Term{l.L, l.L, l.R, l.R}
	}
	return []api.Term{l.L, l.R}
}

// plainRest is a without what it has in common with b.
func plainRest(a, b []api.Term) []api.Term {
	b = slices.Clone(b)
	var rest []api.Term
	for _, t := range a {
		i := slices.IndexFunc(b, func(u api.Term) bool { return term.Same(t, u) })
		if i < 0 {
			rest = append(rest, t)
		} else {
			b = slices.Delete(b, i, i+1)
		}
	}
	return rest
}

func plainMore(g []api.Sym, a, b []api.Term) bool {
	a, b = plainRest(a, b), plainRest(b, a)
	for _, low := range b {
		if !slices.ContainsFunc(a, func(high api.Term) bool {
			order, _ := kbo.Compare(g, high, low)
			return order == 1
		}) {
			return false
		}
	}
	return len(a) > 0
}

func plainCompare(g []api.Sym, a, b api.Lit) int {
	left, right := plainTerms(a), plainTerms(b)
	switch {
	case len(plainRest(left, right)) == 0 && len(plainRest(right, left)) == 0:
		return 0
	case plainMore(g, left, right):
		return 1
	case plainMore(g, right, left):
		return -1
	}
	return 2
}

// plainSame tells of the sides alone; each order of them is tried.
func plainSame(a, b api.Lit) bool {
	for _, sides := range [][2]api.Term{{b.L, b.R}, {b.R, b.L}} {
		if term.Same(a.L, sides[0]) && term.Same(a.R, sides[1]) {
			return true
		}
	}
	return false
}

func TestExamplesP9_1P9_4(t *testing.T) {
	a, fx := fun(1), fun(3, x(0))
	l, m := eq(a, fx), eq(fx, a)
	if !Same(l, m) {
		t.Error("P9.1: a = f(x0) and f(x0) = a")
	}
	if got, err := Orient(toy(), l); !identical(got, m) || err != api.OK {
		t.Errorf("P9.4: a = f(x0): %v, %d", got, err)
	}
}

func TestCheckP9_1(t *testing.T) {
	a, p, r := fun(1), fun(6, fun(1)), fun(8)
	for _, c := range []struct {
		name string
		lit  api.Lit
		want api.Errno
	}{
		{"individuals", eq(a, fun(3, x(0))), api.OK},
		{"variables", eq(x(0), x(1)), api.OK},
		{"a variable itself", eq(x(255), x(255)), api.OK},
		{"individuals, negative", ne(fun(4, a, x(2)), a), api.OK},
		{"an atom", holds(p), api.OK},
		{"an atom, negative", denied(p), api.OK},
		{"an atom of no arguments", holds(r), api.OK},
		{"$true", holds(fun(0)), api.OK},
		{"$true, negative", denied(fun(0)), api.OK},
		{"the zero literal", api.Lit{}, api.OK},
		{"$true with an empty list", eq(p, api.Term{Args: []api.Term{}}), api.OK},
		{"the longest", eq(broad(57, a), broad(57, x(0))), api.OK},
		{"the deepest", ne(chain(39, x(0)), chain(39, a)), api.OK},

		{"an atom right", eq(fun(0), p), api.ErrSort},
		{"an atom right, negative", ne(fun(0), p), api.ErrSort},
		{"an atom left and right", eq(p, p), api.ErrSort},
		{"two atoms", eq(p, r), api.ErrSort},
		{"two atoms, negative", ne(r, p), api.ErrSort},
		{"an atom and an individual", eq(p, a), api.ErrSort},
		{"an atom and a variable", eq(r, x(0)), api.ErrSort},
		{"an individual and an atom", eq(a, p), api.ErrSort},
		{"a variable and an atom", ne(x(0), r), api.ErrSort},
		{"an individual and $true", eq(a, fun(0)), api.ErrSort},
		{"a variable and $true", eq(x(0), fun(0)), api.ErrSort},
		{"$true and an individual", eq(fun(0), a), api.ErrSort},
		{"$true and a variable", ne(fun(0), x(0)), api.ErrSort},
	} {
		if got := Check(toy(), c.lit); got != c.want {
			t.Errorf("P9.1: %s: %d, not %d", c.name, got, c.want)
		}
	}
}

func TestCheckOfAllPairsP9_1(t *testing.T) {
	all := append(individuals(), atoms()...)
	inds := len(individuals())
	for i, l := range all {
		for k, r := range all {
			want := api.ErrSort
			if i < inds && k < inds || i >= inds && k == inds {
				want = api.OK
			}
			for _, neg := range []bool{false, true} {
				if got := Check(toy(), api.Lit{Neg: neg, L: l, R: r}); got != want {
					t.Errorf("P9.1: %v, %v, %v: %d, not %d", neg, l, r, got, want)
				}
			}
		}
	}
}

// A fault of L goes ahead of one of R, and both go ahead of sides that do not go together.
func TestCheckOrderOfErrorsP9_1(t *testing.T) {
	for _, f := range faults() {
		for _, other := range append(individuals(), atoms()...) {
			if got := Check(toy(), eq(f.term, other)); got != f.err {
				t.Errorf("P9.1: %s left of %v: %d, not %d", f.name, other, got, f.err)
			}
			if got := Check(toy(), ne(other, f.term)); got != f.err {
				t.Errorf("P9.1: %s right of %v: %d, not %d", f.name, other, got, f.err)
			}
		}
		for _, second := range faults() {
			if got := Check(toy(), eq(f.term, second.term)); got != f.err {
				t.Errorf("P9.1: %s, %s: %d, not %d", f.name, second.name, got, f.err)
			}
		}
	}
}

// What is an individual and what is an atom hangs on the signature.
func TestCheckOfOtherSignaturesP9_1(t *testing.T) {
	turned := toy()
	for i := range turned[1:] {
		turned[i+1].Truth = !turned[i+1].Truth
	}
	for _, c := range []struct {
		sig  []api.Sym
		lit  api.Lit
		want api.Errno
	}{
		{turned, eq(fun(6, x(0)), fun(8)), api.OK},
		{turned, holds(fun(3, x(0))), api.OK},
		{turned, holds(fun(6, x(0))), api.ErrSort},
		{turned, eq(fun(1), fun(2)), api.ErrSort},
		{turned, eq(fun(6, fun(1)), x(0)), api.ErrSort},
		{toy()[:1], holds(fun(0)), api.OK},
		{toy()[:1], eq(x(0), x(1)), api.OK},
		{toy()[:1], eq(x(0), fun(0)), api.ErrSort},
		{toy()[:1], holds(fun(1)), api.ErrArg},
		{toy()[:2], eq(fun(1), fun(2)), api.ErrArg},
	} {
		if got := Check(c.sig, c.lit); got != c.want {
			t.Errorf("P9.1: %v: %d, not %d", c.lit, got, c.want)
		}
	}
}

// The signature's fault goes ahead of all others, in each function that takes one.
func TestWrongSignatureP9_1P9_3P9_4(t *testing.T) {
	list := []api.Lit{{}, eq(x(0), x(1)), holds(fun(6, x(0))), eq(fun(0), x(0))}
	for _, f := range faults() {
		list = append(list, eq(f.term, x(0)), ne(x(0), f.term))
	}
	for i, g := range wrongSignatures() {
		for _, l := range list {
			if err := Check(g, l); err != api.ErrArg {
				t.Errorf("P9.1: signature %d: %d", i, err)
			}
			if order, err := Compare(g, l, list[0]); order != 0 || err != api.ErrArg {
				t.Errorf("P9.3: signature %d: %d, %d", i, order, err)
			}
			if order, err := Compare(g, list[1], l); order != 0 || err != api.ErrArg {
				t.Errorf("P9.3: signature %d, exchanged: %d, %d", i, order, err)
			}
			if got, err := Orient(g, l); !zero(got) || err != api.ErrArg {
				t.Errorf("P9.4: signature %d: %v, %d", i, got, err)
			}
		}
	}
}

func TestSameAndOppositeP9_1(t *testing.T) {
	a, b, fx := fun(1), fun(2), fun(3, x(0))
	for _, c := range []struct {
		name string
		a, b api.Lit
		same bool // of the sides
	}{
		{"itself", eq(a, fx), eq(a, fx), true},
		{"in the other order", eq(a, fx), eq(fx, a), true},
		{"an atom", holds(fun(6, a)), holds(fun(6, a)), true},
		{"an atom, exchanged", holds(fun(6, a)), eq(fun(0), fun(6, a)), true},
		{"both sides the same", eq(a, a), eq(a, a), true},
		{"the zero literal", api.Lit{}, holds(fun(0)), true},
		{"an empty list", eq(a, b), eq(fun(1, []api.Term{}...), b), true},
		{"one side twice", eq(a, a), eq(a, b), false},
		{"one side twice, then the other one", eq(a, b), eq(b, b), false},
		{"the same left", eq(a, b), eq(a, fx), false},
		{"the same right", eq(a, b), eq(fx, b), false},
		{"the left one right", eq(a, b), eq(fx, a), false},
		{"other variables", eq(fx, a), eq(fun(3, x(1)), a), false},
		{"variables exchanged", eq(fun(4, x(0), x(1)), a), eq(fun(4, x(1), x(0)), a), false},
		{"two atoms", holds(fun(6, a)), holds(fun(6, b)), false},

		{"not valid", eq(fun(6, fun(0)), x(400)), eq(x(400), fun(6, fun(0))), true},
		{"not valid, a variable's arguments", eq(x(0, a), x(0)), eq(x(0, b), x(0)), false},
		{"numbers of arguments that differ", eq(fun(3, a), fun(3)), eq(fun(3, a, a), fun(3)), false},
		{"the greatest numbers", eq(fun(math.MaxInt), fun(math.MinInt)), eq(fun(math.MinInt), fun(math.MaxInt)), true},
		{"longer than the limit", eq(doubled(12, a), broad(200, x(0))), eq(broad(200, x(0)), doubled(12, a)), true},
		{"longer than the limit, one differs", eq(doubled(12, a), fx), eq(fx, fun(4, doubled(11, a), doubled(11, b))), false},
		{"65536 levels", eq(chain(65535, a), b), eq(b, chain(65535, a)), true},
		{"65536 levels, the last one differs", eq(chain(65535, a), b), eq(b, chain(65535, b)), false},
	} {
		for i := range 4 {
			l, m := c.a, c.b
			l.Neg, m.Neg = i%2 == 1, i >= 2
			alike := l.Neg == m.Neg
			if got := Same(l, m); got != (c.same && alike) {
				t.Errorf("P9.1: %s, Same, %v and %v: %v", c.name, l.Neg, m.Neg, got)
			}
			if got := Same(m, l); got != (c.same && alike) {
				t.Errorf("P9.1: %s, Same, exchanged, %v and %v: %v", c.name, l.Neg, m.Neg, got)
			}
			if got := Opposite(l, m); got != (c.same && !alike) {
				t.Errorf("P9.1: %s, Opposite, %v and %v: %v", c.name, l.Neg, m.Neg, got)
			}
			if got := Opposite(m, l); got != (c.same && !alike) {
				t.Errorf("P9.1: %s, Opposite, exchanged, %v and %v: %v", c.name, l.Neg, m.Neg, got)
			}
		}
	}
}

func TestSameAndOppositeOfAllPairsP9_1(t *testing.T) {
	var list []api.Lit
	pool := []api.Term{x(0), x(1), fun(1), fun(0), fun(3, x(0)), fun(3), fun(3, fun(6, x(1)))}
	for _, l := range pool {
		for _, r := range pool {
			list = append(list, eq(l, r), ne(l, r))
		}
	}
	same, opposite := 0, 0
	for _, a := range list {
		for _, b := range list {
			want := plainSame(a, b)
			if got := Same(a, b); got != (want && a.Neg == b.Neg) {
				t.Errorf("P9.1: %v, %v: Same is %v", a, b, got)
			}
			if got := Opposite(a, b); got != (want && a.Neg != b.Neg) {
				t.Errorf("P9.1: %v, %v: Opposite is %v", a, b, got)
			}
			if want && a.Neg == b.Neg {
				same++
			} else if want {
				opposite++
			}
		}
	}
	// Of each sign, a pair of different terms makes 2 * 2, a term with itself 1.
	if want := 2 * (7*6*2 + 7); same != want || opposite != want {
		t.Errorf("P9.1: %d the same, %d opposite, not %d", same, opposite, want)
	}
}

func TestTrivialP9_1(t *testing.T) {
	a := fun(1)
	for _, c := range []struct {
		name string
		l, r api.Term
		want bool
	}{
		{"a variable", x(0), x(0), true},
		{"two variables", x(0), x(1), false},
		{"$true", fun(0), fun(0), true},
		{"an atom", fun(8), fun(0), false},
		{"a term", fun(4, x(0), a), fun(4, x(0), a), true},
		{"its arguments exchanged", fun(4, x(0), a), fun(4, a, x(0)), false},
		{"an instance", fun(3, x(0)), fun(3, a), false},
		{"an empty list", a, api.Term{Head: 1, Args: []api.Term{}}, true},
		{"not valid", fun(4, x(300)), fun(4, x(300)), true},
		{"not valid, and not the same", fun(4, x(300)), fun(4, x(300), a), false},
		{"longer than the limit", doubled(12, a), doubled(12, a), true},
		{"deeper than the limit", chain(65535, a), chain(65535, a), true},
		{"deeper by one", chain(65534, a), chain(65535, a), false},
	} {
		if got := Trivial(eq(c.l, c.r)); got != c.want {
			t.Errorf("P9.1: %s: %v", c.name, got)
		}
		if got := Trivial(ne(c.r, c.l)); got != c.want {
			t.Errorf("P9.1: %s, negative and exchanged: %v", c.name, got)
		}
	}
}

func TestApplyP9_2(t *testing.T) {
	a, b := fun(1), fun(2)
	s := []api.Bind{{Var: 0, To: fun(3, x(1))}, {Var: 1, To: a}}
	for _, c := range []struct {
		name      string
		by        []api.Bind
		lit, want api.Lit
	}{
		{"both sides, at once", s, eq(x(0), fun(4, x(0), x(1))), eq(fun(3, x(1)), fun(4, fun(3, x(1)), a))},
		{"negative", s, ne(x(1), x(2)), ne(a, x(2))},
		{"an atom", s, holds(fun(6, x(0))), holds(fun(6, fun(3, x(1))))},
		{"an atom denied", s, denied(fun(7, x(1), x(0))), denied(fun(7, a, fun(3, x(1))))},
		{"the left side alone", s, eq(x(1), b), eq(a, b)},
		{"the right side alone", s, eq(b, x(1)), eq(b, a)},
		{"the order of the sides stays", s, eq(x(1), x(0)), eq(a, fun(3, x(1)))},
		{"nothing bound", nil, ne(x(0), fun(3, x(1))), ne(x(0), fun(3, x(1)))},
		{"no such variable", s, eq(x(7), b), eq(x(7), b)},
		{"no signature: sides that do not go together", s, eq(fun(6, x(1)), x(1)), eq(fun(6, a), a)},
		{"no signature: any Head, an atom inside", s, ne(fun(1023, fun(8), x(1)), fun(0, x(1))), ne(fun(1023, fun(8), a), fun(0, a))},
		{"the zero literal", s, api.Lit{}, api.Lit{}},
		{"as long as may be", []api.Bind{{Var: 0, To: chain(5, a)}}, eq(fun(4, broad(56, a), x(0)), fun(4, x(0), broad(56, a))), eq(fun(4, broad(56, a), chain(5, a)), fun(4, chain(5, a), broad(56, a)))},
		{"as deep as may be", []api.Bind{{Var: 0, To: chain(20, a)}}, ne(chain(19, x(0)), x(0)), ne(chain(39, a), chain(20, a))},
	} {
		if got, err := Apply(c.by, c.lit); !identical(got, c.want) || err != api.OK {
			t.Errorf("P9.2: %s: %v, %d", c.name, got, err)
		}
	}
}

func TestApplyOfEachSideP9_2(t *testing.T) {
	met := map[api.Errno]int{}
	for _, s := range [][]api.Bind{nil, {{Var: 0, To: fun(2)}}, {{Var: 0, To: x(1)}, {Var: 1, To: x(0)}}, {{Var: 1, To: fun(4, x(0), x(255))}}, {{Var: 0, To: fun(6, x(3))}, {Var: 255, To: fun(3, x(255))}}} {
		for _, l := range valid() {
			left, first := subst.Apply(s, l.L)
			right, second := subst.Apply(s, l.R)
			want, wantErr := api.Lit{Neg: l.Neg, L: left, R: right}, api.OK
			if first != api.OK || second != api.OK {
				want, wantErr = api.Lit{}, cmp.Or(first, second)
			}
			met[wantErr]++
			if got, err := Apply(s, l); !identical(got, want) || err != wantErr {
				t.Errorf("P9.2: %v by %v: %v, %d, not %v, %d", l, s, got, err, want, wantErr)
			}
		}
	}
	if met[api.OK] < 1000 || met[api.ErrLong] < 50 || met[api.ErrDeep] < 50 {
		t.Errorf("P9.2: too few kinds: %v", met)
	}
}

func TestApplyWrongP9_2(t *testing.T) {
	a := fun(1)
	grow := []api.Bind{{Var: 0, To: broad(56, a)}, {Var: 1, To: chain(30, a)}}
	long, deep, wrong := fun(4, x(0), x(0)), chain(20, x(1)), x(256)
	for i, c := range []struct {
		by   []api.Bind
		l, r api.Term
		want api.Errno
	}{
		{[]api.Bind{{Var: 0, To: chain(6, a)}}, fun(4, broad(56, a), x(0)), a, api.ErrLong},
		{[]api.Bind{{Var: 0, To: chain(20, a)}}, a, chain(20, x(0)), api.ErrDeep},
		{grow, long, a, api.ErrLong},
		{grow, a, long, api.ErrLong},
		{grow, deep, a, api.ErrDeep},
		{grow, a, deep, api.ErrDeep},
		{grow, long, deep, api.ErrLong},
		{grow, deep, long, api.ErrDeep},
		{grow, long, wrong, api.ErrLong},
		{grow, wrong, long, api.ErrArg},
		{grow, deep, wrong, api.ErrDeep},
		{grow, wrong, deep, api.ErrArg},
		{grow, a, wrong, api.ErrArg},
		{grow, wrong, a, api.ErrArg},
		{nil, broad(58, a), a, api.ErrArg},
		{nil, a, chain(40, a), api.ErrArg},
		{nil, doubled(300, a), a, api.ErrArg},
		{nil, a, endless(), api.ErrArg},
		{nil, x(0, a), a, api.ErrArg},
		{nil, a, fun(1024), api.ErrArg},
		{[]api.Bind{{Var: -1, To: a}}, a, a, api.ErrArg},
		{[]api.Bind{{Var: 256, To: a}}, a, a, api.ErrArg},
		{[]api.Bind{{Var: 3, To: x(3)}}, a, a, api.ErrArg},
		{[]api.Bind{{Var: 3, To: a}, {Var: 3, To: a}}, a, a, api.ErrArg},
		{[]api.Bind{{Var: 4, To: a}, {Var: 3, To: a}}, long, deep, api.ErrArg},
		{[]api.Bind{{Var: 3, To: broad(58, a)}}, a, a, api.ErrArg},
		{[]api.Bind{{Var: 3, To: endless()}}, a, a, api.ErrArg},
	} {
		for _, neg := range []bool{false, true} {
			if got, err := Apply(c.by, api.Lit{Neg: neg, L: c.l, R: c.r}); !zero(got) || err != c.want {
				t.Errorf("P9.2: wrong one %d: %v, %d, not %d", i, got, err, c.want)
			}
		}
	}
}

func TestCompareP9_3(t *testing.T) {
	a, b, c := fun(1), fun(2), fun(9)
	fx, fy, p := fun(3, x(0)), fun(3, x(1)), fun(6, x(0))
	for _, row := range []struct {
		name string
		a, b api.Lit
		want int
	}{
		{"itself", eq(a, fx), eq(a, fx), 0},
		{"exchanged", eq(a, fx), eq(fx, a), 0},
		{"both negative, exchanged", ne(a, fx), ne(fx, a), 0},
		{"both sides the same", ne(x(3), x(3)), ne(x(3), x(3)), 0},
		{"an atom", holds(p), holds(p), 0},
		{"negative", ne(a, fx), eq(a, fx), 1},
		{"negative and exchanged", ne(a, fx), eq(fx, a), 1},
		{"an atom denied", denied(p), holds(p), 1},
		{"$true denied", denied(fun(0)), holds(fun(0)), 1},
		{"variables denied", ne(x(0), x(1)), eq(x(1), x(0)), 1},
		{"a side twice, negative", ne(a, a), eq(a, a), 1},
		{"a greater side", eq(b, a), eq(a, a), 1},
		{"a greater side beside a lesser one", eq(c, a), eq(b, b), 1},
		{"a greater side, the other literal negative", eq(b, a), ne(a, a), 1},
		{"a greater side, and its like negative", eq(c, b), ne(c, a), -1},
		{"a greater side twice", eq(b, b), eq(b, a), 1},
		{"a lesser side negative", ne(b, a), eq(b, b), 1},
		{"negative, and a lesser side", ne(b, b), eq(c, a), -1},
		{"both negative, a greater side", ne(b, a), ne(a, a), 1},
		{"both negative, two sides", ne(fx, fy), ne(x(0), x(1)), 1},
		{"two sides", eq(fx, fy), eq(x(0), x(1)), 1},
		{"one side of two", eq(fx, x(1)), eq(x(0), x(1)), 1},
		{"each one has a greater side", eq(fx, x(1)), eq(x(0), fy), 2},
		{"other variables", eq(x(0), a), eq(x(1), a), 2},
		{"other variables, negative", ne(x(0), a), eq(x(1), a), 2},
		{"a variable and a constant", eq(x(0), x(0)), eq(a, a), 2},
		{"an atom and an equation", holds(p), eq(x(0), x(0)), 1},
		{"an atom and an equation denied", holds(fun(6, fx)), ne(fx, x(0)), 1},
		{"an atom that is less than a side", holds(fun(6, a)), eq(c, a), -1},
		{"atoms", holds(fun(6, b)), holds(fun(6, a)), 1},
		{"an atom denied, of a lesser one", denied(fun(6, a)), holds(fun(6, b)), -1},
		{"$true and an individual", holds(fun(0)), eq(a, a), -1},
		{"the longest", ne(broad(57, x(0)), broad(57, b)), eq(broad(57, b), broad(57, x(0))), 1},
	} {
		if got, err := Compare(toy(), row.a, row.b); got != row.want || err != api.OK {
			t.Errorf("P9.3: %s: %d, %d, not %d", row.name, got, err, row.want)
		}
		if got, err := Compare(toy(), row.b, row.a); got != turned(row.want) || err != api.OK {
			t.Errorf("P9.3: %s, exchanged: %d, %d, not %d", row.name, got, err, turned(row.want))
		}
	}
}

// compared are literals few enough for all triples of them.
func compared() []api.Lit {
	var list []api.Lit
	pool := []api.Term{x(0), x(1), fun(1), fun(2), fun(3, x(0)), fun(4, x(1), x(0))}
	for _, l := range pool {
		for _, r := range pool {
			list = append(list, eq(l, r), ne(l, r))
		}
	}
	for _, l := range atoms()[:8] {
		list = append(list, holds(l), denied(l))
	}
	return list
}

func TestCompareOfAllPairsP9_3P9_5(t *testing.T) {
	g := toy()
	met := map[int]int{}
	list := compared()
	for _, a := range list {
		for _, b := range list {
			want := plainCompare(g, a, b)
			met[want]++
			got, err := Compare(g, a, b)
			if got != want || err != api.OK {
				t.Fatalf("P9.3: %v, %v: %d, %d, not %d", a, b, got, err, want)
			}
			if (got == api.Equal) != Same(a, b) {
				t.Fatalf("P9.5: %v, %v: %d, Same is %v", a, b, got, Same(a, b))
			}
		}
	}
	for order := -1; order <= 2; order++ {
		if met[order] < len(list) {
			t.Errorf("P9.3: too few kinds: %v", met)
		}
	}
}

func TestCompareWrongP9_3(t *testing.T) {
	type wrong struct {
		lit api.Lit
		err api.Errno
	}
	list := []wrong{{eq(fun(0), fun(8)), api.ErrSort}, {ne(x(0), fun(0)), api.ErrSort}, {eq(fun(8), fun(8)), api.ErrSort}}
	for _, f := range faults() {
		list = append(list, wrong{eq(f.term, x(0)), f.err}, wrong{ne(fun(0), f.term), f.err})
	}
	right := []api.Lit{eq(x(0), fun(1)), denied(fun(6, x(0))), {}}
	for _, w := range list {
		for _, l := range right {
			if order, err := Compare(toy(), w.lit, l); order != 0 || err != w.err {
				t.Errorf("P9.3: wrong first, by %d: %d, %d", w.err, order, err)
			}
			if order, err := Compare(toy(), l, w.lit); order != 0 || err != w.err {
				t.Errorf("P9.3: wrong second, by %d: %d, %d", w.err, order, err)
			}
		}
		// All faults of the first literal go ahead of those of the second one.
		for _, second := range list {
			if order, err := Compare(toy(), w.lit, second.lit); order != 0 || err != w.err {
				t.Errorf("P9.3: wrong by %d, and by %d: %d, %d", w.err, second.err, order, err)
			}
		}
	}
}

func TestOrientP9_4(t *testing.T) {
	a, b, fx := fun(1), fun(2), fun(3, x(0))
	for _, c := range []struct {
		name      string
		lit, want api.Lit
	}{
		{"the greater side is right", eq(a, fx), eq(fx, a)},
		{"the greater side is right, negative", ne(a, fx), ne(fx, a)},
		{"the greater side is left", eq(fx, a), eq(fx, a)},
		{"the greater side is left, negative", ne(fx, a), ne(fx, a)},
		{"constants", eq(a, b), eq(b, a)},
		{"a heavier constant", eq(b, fun(9)), eq(fun(9), b)},
		{"a variable in the right side", eq(x(0), fx), eq(fx, x(0))},
		{"no order: variables", eq(x(1), x(0)), eq(x(1), x(0))},
		{"no order: variables, exchanged", eq(x(0), x(1)), eq(x(0), x(1))},
		{"no order: a variable and a constant", ne(x(0), a), ne(x(0), a)},
		{"no order: a constant and a variable", ne(a, x(0)), ne(a, x(0))},
		{"no order: arguments exchanged", eq(fun(4, x(0), x(1)), fun(4, x(1), x(0))), eq(fun(4, x(0), x(1)), fun(4, x(1), x(0)))},
		{"the same", eq(fx, fx), eq(fx, fx)},
		{"an atom", holds(fun(6, fx)), holds(fun(6, fx))},
		{"an atom denied", denied(fun(8)), denied(fun(8))},
		{"$true", denied(fun(0)), denied(fun(0))},
		{"the zero literal", api.Lit{}, api.Lit{}},
		{"the longest", ne(broad(57, a), broad(57, b)), ne(broad(57, b), broad(57, a))},
		{"the deepest", eq(chain(38, x(0)), chain(39, x(0))), eq(chain(39, x(0)), chain(38, x(0)))},
	} {
		if got, err := Orient(toy(), c.lit); !identical(got, c.want) || err != api.OK {
			t.Errorf("P9.4: %s: %v, %d", c.name, got, err)
		}
	}
}

// Which side is the greater one hangs on the signature.
func TestOrientByWeightsP9_4(t *testing.T) {
	heavy := toy()
	heavy[1].Weight = 3
	for _, l := range []api.Lit{eq(fun(1), fun(2)), eq(fun(2), fun(1))} {
		if got, err := Orient(heavy, l); !identical(got, eq(fun(1), fun(2))) || err != api.OK {
			t.Errorf("P9.4: %v: %v, %d", l, got, err)
		}
	}
}

func TestOrientWrongP9_4(t *testing.T) {
	for _, f := range faults() {
		for _, l := range []api.Lit{eq(f.term, fun(1)), ne(x(0), f.term), eq(f.term, fun(0)), eq(f.term, f.term)} {
			if got, err := Orient(toy(), l); !zero(got) || err != f.err {
				t.Errorf("P9.4: %s: %v, %d, not %d", f.name, got, err, f.err)
			}
		}
	}
	for _, l := range []api.Lit{eq(fun(0), fun(8)), ne(fun(0), fun(6, x(0))), ne(fun(1), fun(8)), eq(x(0), fun(0)), eq(fun(8), fun(8)), ne(fun(6, x(0)), x(0))} {
		if got, err := Orient(toy(), l); !zero(got) || err != api.ErrSort {
			t.Errorf("P9.4: %v: %v, %d", l, got, err)
		}
	}
}

func TestOrientP9_5(t *testing.T) {
	g := toy()
	met := map[int]int{}
	for _, l := range valid() {
		got, err := Orient(g, l)
		if !Same(got, l) || err != api.OK {
			t.Fatalf("P9.5: %v: %v, %d", l, got, err)
		}
		before, _ := kbo.Compare(g, l.L, l.R)
		met[before]++
		if after, _ := kbo.Compare(g, got.L, got.R); after == api.Less || before != api.Less && !identical(got, l) {
			t.Fatalf("P9.5: %v: %v", l, got)
		}
		if again, err := Orient(g, got); !identical(again, got) || err != api.OK {
			t.Fatalf("P9.5: %v: %v, and again %v, %d", l, got, again, err)
		}
	}
	for order := -1; order <= 2; order++ {
		if met[order] < 20 {
			t.Errorf("P9.5: too few kinds: %v", met)
		}
	}
}

func TestNegativeIsGreaterP9_5(t *testing.T) {
	for _, l := range valid() {
		for _, other := range []api.Lit{{Neg: !l.Neg, L: l.L, R: l.R}, {Neg: !l.Neg, L: l.R, R: l.L}} {
			if Check(toy(), other) != api.OK {
				continue
			}
			want := api.More
			if other.Neg {
				want = api.Less
			}
			if got, err := Compare(toy(), l, other); !Opposite(l, other) || got != want || err != api.OK {
				t.Fatalf("P9.5: %v, %v: %d, %d", l, other, got, err)
			}
		}
	}
}

// Nothing that is handed in is written to, and what is answered is in memory of its own.
func TestApartR2(t *testing.T) {
	to := []api.Bind{{Var: 0, To: fun(3, fun(1))}, {Var: 1, To: fun(3, fun(3, x(0)))}}
	for _, l := range append(valid(), eq(fun(3, x(9)), fun(3, fun(3, fun(2))))) {
		own, g, s := copied(l), toy(), slices.Clone(to)
		Check(g, own)
		Compare(g, own, own)
		Same(own, own)
		Opposite(own, own)
		Trivial(own)
		oriented, _ := Orient(g, own)
		applied, err := Apply(s, own)
		want := copied(applied)
		overwrite(oriented.L.Args)
		overwrite(oriented.R.Args)
		if !identical(own, l) || !slices.Equal(g, toy()) || err == api.OK && !identical(applied, want) {
			t.Fatalf("R2: %v was changed to %v, or the signature to %v", l, own, g)
		}
		overwrite(applied.L.Args)
		if !identical(own, l) || !term.Same(applied.R, want.R) || !term.Same(s[0].To, fun(3, fun(1))) || !term.Same(s[1].To, fun(3, fun(3, x(0)))) {
			t.Fatalf("R2: %v was changed to %v, or the substitution to %v", l, own, s)
		}
	}
}

// overwrite writes to every list of Args, from the innermost ones outwards.
func overwrite(args []api.Term) {
	for i := range args {
		overwrite(args[i].Args)
		args[i] = fun(777)
	}
}

// Both sides are one in memory; those of the answers are not.
func TestSidesApartR2(t *testing.T) {
	u := fun(4, fun(3, x(0)), x(1))
	for _, l := range []api.Lit{eq(u, u), ne(u.Args[0], u)} {
		want := copied(l)
		oriented, _ := Orient(toy(), l)
		applied, _ := Apply(nil, l)
		for _, got := range []api.Lit{oriented, applied} {
			right := term.Copy(got.R)
			overwrite(got.L.Args)
			if !term.Same(got.R, right) || !identical(l, want) {
				t.Errorf("R2: %v: writing to the left side of an answer", want)
			}
		}
	}
}

// No call hangs on the calls before it, with whatever signature.
func TestAgainR3(t *testing.T) {
	heavy := toy()
	heavy[1].Weight = 3
	for range 3 {
		if order, err := Compare(toy(), eq(fun(1), fun(1)), eq(fun(2), fun(2))); order != api.Less || err != api.OK {
			t.Errorf("R3: %d, %d", order, err)
		}
		if order, err := Compare(heavy, eq(fun(1), fun(1)), eq(fun(2), fun(2))); order != api.More || err != api.OK {
			t.Errorf("R3: heavy: %d, %d", order, err)
		}
		Check(nil, eq(endless(), endless()))
		Apply([]api.Bind{{Var: 1, To: fun(1)}}, eq(x(1), endless()))
		if got, err := Apply(nil, eq(x(1), x(2))); !identical(got, eq(x(1), x(2))) || err != api.OK {
			t.Errorf("R3: %v, %d", got, err)
		}
	}
}
