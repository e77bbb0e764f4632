package maxim

import (
	"math"
	"slices"
	"testing"

	"elenchus/api"
	"elenchus/clause"
	"elenchus/lit"
	"elenchus/term"
	"elenchus/weigh"
)

func fun(head int, args ...api.Term) api.Term { return api.Term{Head: head, Args: args} }

func x(n int, args ...api.Term) api.Term { return api.Term{Head: -1 - n, Args: args} }

func eq(l, r api.Term) api.Lit { return api.Lit{L: l, R: r} }

func ne(l, r api.Term) api.Lit { return api.Lit{Neg: true, L: l, R: r} }

// holds and denied state an atom and its negation.

func holds(atom api.Term) api.Lit { return eq(atom, fun(0)) }

func denied(atom api.Term) api.Lit { return ne(atom, fun(0)) }

func list(c ...api.Lit) []api.Lit { return c }

// times is a clause of one literal, n times.
func times(n int, l api.Lit) []api.Lit { return slices.Repeat([]api.Lit{l}, n) }

// chain is f(f(.. (end))), of n levels above the end.
func chain(n int, end api.Term) api.Term {
	for range n {
		end = fun(3, end)
	}
	return end
}

// doubled is a full binary tree of n levels above the end, its lists shared on every level.
func doubled(n int, end api.Term) api.Term {
	for range n {
		end = fun(4, end, end)
	}
	return end
}

// broad is a flat term of n symbols with seven arguments each; its size is 7 * n + 1, if that of the leaf is 1.
func broad(n int, leaf api.Term) api.Term { return broadFrom(0, n, leaf) }

// broadFrom is the ith subterm, counted level by level.
func broadFrom(i, n int, leaf api.Term) api.Term {
	if i >= n {
		return leaf
	}
	t := fun(5)
	for k := range 7 {
		t.Args = append(t.Args, broadFrom(7*i+1+k, n, leaf))
	}
	return t
}

// endless holds itself.
func endless() api.Term {
	args := make([]api.Term, 1)
	args[0] = fun(3, args...)
	return args[0]
}

// toy: 1 and 2 are a and b, 3 to 5 are f, g and w, of one, two and seven arguments; 6 to 8 are the predicates p, q and r, of one, two and no arguments; 9 is c, heavier than the others.
func toy() []api.Sym {
	return []api.Sym{{Name: "$true", Weight: 1, Truth: true}, {Name: "a", Weight: 1}, {Name: "b", Weight: 1},
		{Name: "f", Arity: 1, Weight: 1}, {Name: "g", Arity: 2, Weight: 1}, {Name: "w", Arity: 7, Weight: 1},
		{Name: "p", Arity: 1, Weight: 1, Truth: true}, {Name: "q", Arity: 2, Weight: 1, Truth: true}, {Name: "r", Weight: 1, Truth: true},
		{Name: "c", Weight: 5}}
}

// heavy is the toy with a as heavy as a symbol may be.
func heavy() []api.Sym {
	g := toy()
	g[1].Weight = 1000
	return g
}

// wrongSignatures are some that are not valid.
func wrongSignatures() [][]api.Sym {
	with := func(at int, s api.Sym) []api.Sym {
		g := toy()
		g[at] = s
		return g
	}
	return [][]api.Sym{nil, {}, toy()[1:], with(0, api.Sym{Name: "$true", Weight: 1}), with(1, api.Sym{Name: "b", Weight: 1}),
		with(1, api.Sym{Weight: 1}), with(1, api.Sym{Name: "a"}), with(3, api.Sym{Name: "f", Arity: 9, Weight: 1}), append(toy(), make([]api.Sym, 300)...)}
}

type faultyTerm struct {
	name string
	term api.Term
	err  api.Errno
}

// unfit are valid terms that are not terms over the toy, with the errors of layer 7's Term.
func unfit() []faultyTerm {
	a := fun(1)
	return []faultyTerm{
		{"no symbol", fun(10), api.ErrArg},
		{"no symbol inside", fun(4, a, fun(10)), api.ErrArg},
		{"too few arguments", fun(4, a), api.ErrArg},
		{"an argument of $true", fun(0, a), api.ErrArg},
		{"an atom inside", fun(3, fun(6, a)), api.ErrSort},
		{"$true inside", fun(6, fun(0)), api.ErrSort},
	}
}

// invalid are terms of every kind that is not valid, with the errors of layer 1's Check.
func invalid() []faultyTerm {
	a := fun(1)
	return []faultyTerm{
		{"variable 256", x(256), api.ErrArg},
		{"variable 256 inside", fun(3, x(256)), api.ErrArg},
		{"a variable with an argument", fun(3, x(0, a)), api.ErrArg},
		{"head 1024", fun(1024), api.ErrArg},
		{"nine arguments", fun(5, a, a, a, a, a, a, a, a, a), api.ErrArg},
		{"too deep", chain(40, a), api.ErrDeep},
		{"too long", broad(58, a), api.ErrLong},
		{"shared without measure", doubled(300, a), api.ErrLong},
		{"no end", endless(), api.ErrLong},
	}
}

type faultyClause struct {
	clause []api.Lit
	err    api.Errno
}

// faults are clauses of every kind that is not valid over the toy, with the errors of layer 10's Check.
func faults() []faultyClause {
	fine := denied(fun(6, x(0)))
	all := []faultyClause{{times(33, fine), api.ErrLong}, {make([]api.Lit, 100000), api.ErrLong}, {times(33, eq(fun(0), fun(8))), api.ErrLong}}
	literals := []faultyClause{{list(eq(fun(0), fun(8))), api.ErrSort}, {list(ne(x(0), fun(0))), api.ErrSort}, {list(ne(fun(6, x(0)), fun(1))), api.ErrSort}}
	for _, f := range append(unfit(), invalid()...) {
		literals = append(literals, faultyClause{list(eq(f.term, x(0))), f.err}, faultyClause{list(ne(fun(1), f.term)), f.err})
	}
	for _, l := range literals {
		all = append(all, l, faultyClause{append(list(fine), l.clause...), l.err}, faultyClause{append(l.clause, fine), l.err})
	}
	return all
}

// small are literals few enough for all clauses of three of them.
func small() []api.Lit {
	a, fx := fun(1), fun(3, x(0))
	return []api.Lit{eq(a, fx), ne(a, fx), ne(fx, a), eq(x(0), x(1)), eq(x(1), x(0)), ne(x(1), x(0)),
		holds(fun(6, x(0))), denied(fun(6, x(1))), holds(fun(6, a)), denied(fun(0)), ne(fun(4, x(1), x(0)), fun(9)), denied(fun(8))}
}

// ground are such literals without variables.
func ground() []api.Lit {
	a, b := fun(1), fun(2)
	return []api.Lit{eq(a, b), eq(b, a), ne(b, a), ne(a, b), eq(a, a), ne(b, b), eq(fun(3, a), b), ne(fun(9), a), eq(fun(9), fun(3, b)),
		holds(fun(6, a)), denied(fun(6, a)), holds(fun(7, a, b)), holds(fun(8)), denied(fun(0))}
}

// bindings are valid substitutions; not all instances of the small literals by them are valid.
func bindings() [][]api.Bind {
	a := fun(1)
	return [][]api.Bind{nil, {{Var: 0, To: a}}, {{Var: 1, To: x(0)}}, {{Var: 0, To: x(1)}, {Var: 1, To: x(0)}}, {{Var: 1, To: chain(2, x(0))}},
		{{Var: 0, To: fun(9)}, {Var: 1, To: a}}, {{Var: 0, To: fun(8)}}, {{Var: 1, To: fun(10)}}, {{Var: 0, To: chain(39, a)}}}
}

// clauses are all of up to so many of the literals.
func clauses(upTo int, pool []api.Lit) [][]api.Lit {
	all := [][]api.Lit{nil}
	for first, n := 0, 0; n < upTo; n++ {
		end := len(all)
		for ; first < end; first++ {
			for _, l := range pool {
				all = append(all, append(slices.Clone(all[first]), l))
			}
		}
	}
	return all
}

func copied(c []api.Lit) []api.Lit {
	c = slices.Clone(c)
	for i, l := range c {
		c[i].L, c[i].R = term.Copy(l.L), term.Copy(l.R)
	}
	return c
}

// identical is narrower than layer 9's Same of each: the sides are in the same order too.
func identical(c, d []api.Lit) bool {
	return slices.EqualFunc(c, d, func(a, b api.Lit) bool { return a.Neg == b.Neg && term.Same(a.L, b.L) && term.Same(a.R, b.R) })
}

// The document's words, one by one, to hold the package against.

func plainMaximal(g []api.Sym, c []api.Lit, i int, strict bool) (bool, api.Errno) {
	if err := clause.Check(g, c); err != 0 {
		return false, err
	}
	if i < 0 || i > len(c)-1 {
		return false, 1
	}
	greater, equal := 0, 0
	for k := range c {
		switch order, _ := lit.Compare(g, c[i], c[k]); {
		case k != i && order == -1:
			greater++
		case k != i && order == 0:
			equal++
		}
	}
	return greater == 0 && (!strict || equal == 0), 0
}

func plainSelect(g []api.Sym, c []api.Lit, how int) ([]int, api.Errno) {
	if err := clause.Check(g, c); err != 0 {
		return nil, err
	}
	if how < 0 || how > 2 {
		return nil, 1
	}
	chosen, most := -1, 0
	for i := len(c) - 1; i >= 0; i-- {
		left, _ := weigh.Weight(g, c[i].L)
		right, _ := weigh.Weight(g, c[i].R)
		if c[i].Neg && (how == 1 || how == 2 && left+right >= most) {
			chosen, most = i, left+right
		}
	}
	if chosen < 0 {
		return nil, 0
	}
	return []int{chosen}, 0
}

func plainMay(g []api.Sym, c []api.Lit, how int, i int, s []api.Bind) (bool, api.Errno) {
	selected, err := plainSelect(g, c, how)
	if err != 0 {
		return false, err
	}
	if i < 0 || i > len(c)-1 {
		return false, 1
	}
	applied, err := clause.Apply(s, c)
	if err != 0 {
		return false, err
	}
	if err := clause.Check(g, applied); err != 0 {
		return false, err
	}
	if len(selected) > 0 {
		return slices.Index(selected, i) >= 0, 0
	}
	return plainMaximal(g, applied, i, !applied[i].Neg)
}

func TestMaximalP11_1(t *testing.T) {
	a, b, fx := fun(1), fun(2), fun(3, x(0))
	for _, c := range []struct {
		name           string
		clause         []api.Lit
		maximal, alone []int
	}{
		{"one literal", list(eq(a, b)), []int{0}, []int{0}},
		{"$true", list(denied(fun(0))), []int{0}, []int{0}},
		{"greater first", list(eq(fx, a), eq(x(0), a)), []int{0}, []int{0}},
		{"greater last", list(eq(x(0), a), eq(fx, a)), []int{1}, []int{1}},
		{"greater in the middle", list(eq(b, a), eq(fun(9), a), eq(fun(3, a), a)), []int{1}, []int{1}},
		{"one above another above a third", list(eq(a, a), eq(b, a), eq(b, b)), []int{2}, []int{2}},
		{"neither greater", list(holds(fun(6, x(0))), holds(fun(6, x(1)))), []int{0, 1}, []int{0, 1}},
		{"one below one of two", list(holds(fun(6, x(0))), holds(fun(6, x(1))), holds(fun(6, fx))), []int{1, 2}, []int{1, 2}},
		{"twice", list(eq(a, b), eq(a, b)), []int{0, 1}, nil},
		{"twice, with sides exchanged", list(eq(a, b), eq(b, a)), []int{0, 1}, nil},
		{"twice, and a smaller one", list(ne(a, b), eq(a, b), ne(b, a)), []int{0, 2}, nil},
		{"twice, below another", list(eq(a, b), eq(fun(9), b), eq(b, a)), []int{1}, []int{1}},
		{"twice, with another beside", list(eq(x(0), a), eq(x(1), a), eq(a, x(0))), []int{0, 1, 2}, []int{1}},
		{"a negation is greater", list(holds(fun(8)), denied(fun(8))), []int{1}, []int{1}},
		{"trivial ones", list(eq(a, a), ne(a, a), eq(a, a)), []int{1}, []int{1}},
		{"32 the same", times(32, denied(fun(8))), upTo(32), nil},
	} {
		for i := range c.clause {
			for _, strict := range []bool{false, true} {
				want := slices.Contains(c.maximal, i)
				if strict {
					want = slices.Contains(c.alone, i)
				}
				if got, err := Maximal(toy(), c.clause, i, strict); got != want || err != api.OK {
					t.Errorf("P11.1: %s: %d, %v: %v, %d", c.name, i, strict, got, err)
				}
			}
		}
	}
}

// upTo lists the numbers below n.
func upTo(n int) []int {
	var all []int
	for i := range n {
		all = append(all, i)
	}
	return all
}

// Which one is greater hangs on the signature.
func TestMaximalByWeightsP11_1(t *testing.T) {
	c := list(eq(fun(1), fun(1)), eq(fun(2), fun(2)))
	for i := range c {
		light, e := Maximal(toy(), c, i, true)
		strong, f := Maximal(heavy(), c, i, true)
		if light != (i == 1) || strong != (i == 0) || e != api.OK || f != api.OK {
			t.Errorf("P11.1: %d: %v, %v, %d, %d", i, light, strong, e, f)
		}
	}
}

// The greatest literals that there may be, of which only the last is greater than the others.
func TestMaximalOfGreatP11_1(t *testing.T) {
	c := append(times(31, ne(broad(57, fun(1)), broad(57, x(255)))), ne(broad(57, fun(2)), broad(57, x(255))))
	for i := range c {
		if got, err := Maximal(toy(), c, i, true); got != (i == 31) || err != api.OK {
			t.Errorf("P11.1: %d: %v, %d", i, got, err)
		}
	}
}

func TestMaximalSmallP11_1(t *testing.T) {
	g := toy()
	met := map[bool]int{}
	for _, c := range append(clauses(3, small()), clauses(2, ground())...) {
		for i := -1; i <= len(c); i++ {
			for _, strict := range []bool{false, true} {
				want, wrong := plainMaximal(g, c, i, strict)
				if got, err := Maximal(g, c, i, strict); got != want || err != wrong {
					t.Fatalf("P11.1: %v, %d, %v: %v, %d, not %v, %d", c, i, strict, got, err, want, wrong)
				}
				met[want]++
			}
		}
	}
	if met[true] < 1000 || met[false] < 1000 {
		t.Errorf("P11.1: too few kinds: %v", met)
	}
}

func TestMaximalWrongP11_1(t *testing.T) {
	for _, strict := range []bool{false, true} {
		for n, c := range [][]api.Lit{nil, list(holds(fun(8))), list(eq(x(0), x(1)), denied(fun(8)))} {
			for _, i := range []int{-1, n, n + 1, 32, math.MinInt, math.MaxInt} {
				if got, err := Maximal(toy(), c, i, strict); got || err != api.ErrArg {
					t.Errorf("P11.1: %v, %d: %v, %d", c, i, got, err)
				}
			}
		}
		for _, i := range []int{0, -1, 40, math.MaxInt} {
			for _, f := range faults() {
				if got, err := Maximal(toy(), f.clause, i, strict); got || err != f.err {
					t.Errorf("P11.1: %d literals, %d: %v, %d, not %d", len(f.clause), i, got, err, f.err)
				}
			}
			for k, g := range wrongSignatures() {
				for _, c := range [][]api.Lit{nil, list(holds(fun(0))), times(33, holds(fun(0))), list(eq(endless(), endless()))} {
					if got, err := Maximal(g, c, i, strict); got || err != api.ErrArg {
						t.Errorf("P11.1: signature %d, %d: %v, %d", k, i, got, err)
					}
				}
			}
		}
	}
}

func TestSelectP11_2(t *testing.T) {
	a, b, c5 := fun(1), fun(2), fun(9)
	for _, c := range []struct {
		name         string
		clause       []api.Lit
		first, heavy int
	}{
		{"the empty clause", nil, -1, -1},
		{"an empty list", list(), -1, -1},
		{"one", list(ne(a, b)), 0, 0},
		{"none negative", list(eq(a, b), holds(fun(6, c5))), -1, -1},
		{"a heavier one that is not negative", list(eq(c5, c5), ne(a, a)), 1, 1},
		{"the heaviest first", list(ne(a, c5), ne(a, fun(3, b)), ne(a, b)), 0, 0},
		{"the heaviest in the middle", list(ne(a, b), eq(c5, c5), ne(a, c5), ne(a, fun(3, b))), 0, 2},
		{"the heaviest last", list(holds(fun(8)), ne(a, b), ne(a, fun(3, b)), denied(fun(6, c5))), 1, 3},
		{"several as heavy", list(eq(a, b), ne(a, b), ne(c5, a), ne(a, c5), ne(fun(3, c5), x(7))), 1, 4},
		{"all as heavy", list(ne(b, a), ne(a, b), denied(fun(8)), ne(x(3), x(0)), denied(fun(0))), 0, 0},
		{"both sides count", list(ne(c5, a), ne(fun(3, fun(3, b)), fun(3, fun(3, b))), ne(b, chain(4, a))), 0, 0},
		{"both sides count, the last", list(ne(c5, a), ne(chain(3, b), chain(2, b))), 0, 1},
		{"a negative one is weighed once", list(ne(a, c5), ne(chain(2, a), chain(2, b)), ne(chain(4, a), b)), 0, 0},
		{"more subterms, but lighter", list(ne(fun(3, fun(3, a)), a), ne(c5, a)), 0, 1},
		{"lighter, but greater", list(ne(c5, a), ne(fun(4, b, b), a)), 0, 0},
		{"variables", list(ne(x(0), fun(4, x(1), x(1))), ne(x(0), fun(4, fun(3, x(0)), x(9)))), 0, 1},
		{"$true", list(holds(fun(6, a)), denied(fun(0))), 1, 1},
		{"the last of 32", append(times(31, eq(c5, c5)), ne(a, a)), 31, 31},
		{"32 the same", times(32, ne(a, a)), 0, 0},
	} {
		for how, want := range []int{-1, c.first, c.heavy} {
			got, err := Select(toy(), c.clause, how)
			if err != api.OK || want < 0 && len(got) > 0 || want >= 0 && !slices.Equal(got, []int{want}) {
				t.Errorf("P11.2: %s: %d: %v, %d, not %d", c.name, how, got, err, want)
			}
		}
	}
}

// The numbers of the ways to select are those of the document.
func TestWaysToSelectP11_2(t *testing.T) {
	if api.SelectNone != 0 || api.SelectFirst != 1 || api.SelectHeavy != 2 {
		t.Errorf("P11.2: %d, %d, %d", api.SelectNone, api.SelectFirst, api.SelectHeavy)
	}
}

// Which one is the heaviest hangs on the signature.
func TestSelectByWeightsP11_2(t *testing.T) {
	c := list(ne(fun(9), fun(2)), ne(fun(1), fun(2)))
	for n, g := range [][]api.Sym{toy(), heavy()} {
		if got, err := Select(g, c, api.SelectHeavy); !slices.Equal(got, []int{n}) || err != api.OK {
			t.Errorf("P11.2: %v, %d, not %d", got, err, n)
		}
	}
}

// The heaviest literals that there may be, of which one weighs a little less.
func TestSelectOfGreatP11_2(t *testing.T) {
	g := heavy()
	g[5].Weight = 1000
	c := append(list(ne(broad(57, fun(1)), broad(56, fun(1)))), times(31, ne(broad(57, fun(1)), broad(57, fun(1))))...)
	if got, err := Select(g, c, api.SelectHeavy); !slices.Equal(got, []int{1}) || err != api.OK {
		t.Errorf("P11.2: %v, %d", got, err)
	}
}

func TestSelectSmallP11_2(t *testing.T) {
	for _, g := range [][]api.Sym{toy(), heavy()} {
		for _, c := range append(clauses(3, small()), clauses(2, ground())...) {
			for how := -1; how <= 3; how++ {
				want, wrong := plainSelect(g, c, how)
				if got, err := Select(g, c, how); !slices.Equal(got, want) || err != wrong {
					t.Fatalf("P11.2: %v, %d: %v, %d, not %v, %d", c, how, got, err, want, wrong)
				}
			}
		}
	}
}

func TestSelectWrongP11_2(t *testing.T) {
	for _, how := range []int{-1, 3, 4, 32, math.MinInt, math.MaxInt} {
		for _, c := range [][]api.Lit{nil, list(holds(fun(8))), list(denied(fun(8)), ne(x(0), x(1)))} {
			if got, err := Select(toy(), c, how); got != nil || err != api.ErrArg {
				t.Errorf("P11.2: %v, %d: %v, %d", c, how, got, err)
			}
		}
	}
	for _, how := range []int{0, 1, 2, -1, 3, math.MaxInt} {
		for _, f := range faults() {
			if got, err := Select(toy(), f.clause, how); got != nil || err != f.err {
				t.Errorf("P11.2: %d literals, %d: %v, %d, not %d", len(f.clause), how, got, err, f.err)
			}
		}
		for k, g := range wrongSignatures() {
			for _, c := range [][]api.Lit{nil, list(denied(fun(0))), times(33, denied(fun(0)))} {
				if got, err := Select(g, c, how); got != nil || err != api.ErrArg {
					t.Errorf("P11.2: signature %d, %d: %v, %d", k, how, got, err)
				}
			}
		}
	}
}

func TestMayP11_3(t *testing.T) {
	a, b, p, q := fun(1), fun(2), holds(fun(6, x(0))), holds(fun(6, x(1)))
	same := []api.Bind{{Var: 1, To: x(0)}}
	for _, c := range []struct {
		name   string
		clause []api.Lit
		how    int
		s      []api.Bind
		want   []int
	}{
		{"nothing is selected, all are maximal", list(p, q), 0, nil, []int{0, 1}},
		{"they become the same", list(p, q), 0, same, nil},
		{"they become the same, the other way round", list(q, p), 0, []api.Bind{{Var: 0, To: x(1)}}, nil},
		{"negative ones become the same", list(denied(p.L), denied(q.L)), 0, same, []int{0, 1}},
		{"one becomes greater", list(p, q), 0, []api.Bind{{Var: 1, To: fun(3, x(0))}}, []int{1}},
		{"one becomes as great as a negative one", list(denied(p.L), q), 0, same, []int{0}},
		{"one was smaller, both grow", list(p, holds(fun(6, fun(3, x(0))))), 0, []api.Bind{{Var: 0, To: a}}, []int{1}},
		{"one becomes greater by its other side", list(eq(x(0), a), eq(x(1), b)), 0, []api.Bind{{Var: 0, To: b}, {Var: 1, To: b}}, []int{1}},
		{"no negative one, by the first", list(p, q), 1, nil, []int{0, 1}},
		{"no negative one, by the heaviest", list(p, q), 2, same, nil},
		{"no negative one, one is greater", list(p, holds(fun(6, fun(3, x(0))))), 2, nil, []int{1}},
		{"the first, greater or not", list(eq(fun(9), fun(9)), ne(a, a), ne(fun(9), b)), 1, nil, []int{1}},
		{"the heaviest, greater or not", list(eq(fun(9), fun(9)), ne(a, a), ne(fun(4, b, b), b), ne(fun(9), a)), 2, nil, []int{3}},
		{"negative ones, nothing is selected", list(eq(fun(9), fun(9)), ne(a, a), ne(fun(9), b)), 0, nil, []int{2}},
		{"the heaviest ahead of the substitution", list(ne(fun(3, x(0)), a), ne(x(1), a)), 2, []api.Bind{{Var: 1, To: fun(9)}}, []int{0}},
		{"the first of several that become the same", list(p, denied(p.L), denied(q.L)), 1, same, []int{1}},
		{"one literal", list(p), 0, same, []int{0}},
		{"one trivial literal", list(eq(x(0), x(1))), 0, same, []int{0}},
	} {
		for i := range c.clause {
			if got, err := May(toy(), c.clause, c.how, i, c.s); got != slices.Contains(c.want, i) || err != api.OK {
				t.Errorf("P11.3: %s: %d: %v, %d", c.name, i, got, err)
			}
		}
	}
}

func TestMaySmallP11_3(t *testing.T) {
	g := toy()
	met := map[bool]int{}
	wrongs := map[api.Errno]int{}
	for _, c := range append(clauses(2, small()), clauses(3, small()[3:10])...) {
		for how := -1; how <= 3; how++ {
			for i := -1; i <= len(c); i++ {
				for _, s := range bindings() {
					want, wrong := plainMay(g, c, how, i, s)
					if got, err := May(g, c, how, i, s); got != want || err != wrong {
						t.Fatalf("P11.3: %v, %d, %d, %v: %v, %d, not %v, %d", c, how, i, s, got, err, want, wrong)
					}
					met[want]++
					wrongs[wrong]++
				}
			}
		}
	}
	if met[true] < 1000 || wrongs[api.OK]-met[true] < 1000 || wrongs[api.ErrArg] < 100 || wrongs[api.ErrDeep] < 100 || wrongs[api.ErrSort] < 100 {
		t.Errorf("P11.3: too few kinds: %v, %v", met, wrongs)
	}
}

// wrongBindings are substitutions that are not valid, or not in place, with the errors that they bring about in a clause with x0.
func wrongBindings() []struct {
	s   []api.Bind
	err api.Errno
} {
	a := fun(1)
	all := []struct {
		s   []api.Bind
		err api.Errno
	}{
		{[]api.Bind{{Var: -1, To: a}}, api.ErrArg},
		{[]api.Bind{{Var: 256, To: a}}, api.ErrArg},
		{[]api.Bind{{Var: 1, To: a}, {Var: 0, To: a}}, api.ErrArg},
		{[]api.Bind{{Var: 1, To: a}, {Var: 1, To: a}}, api.ErrArg},
		{[]api.Bind{{Var: 0, To: fun(8)}}, api.ErrSort},
		{[]api.Bind{{Var: 0, To: fun(0)}}, api.ErrSort},
		{[]api.Bind{{Var: 0, To: fun(6, a)}}, api.ErrSort},
		{[]api.Bind{{Var: 0, To: chain(39, a)}}, api.ErrDeep},
		{[]api.Bind{{Var: 0, To: broad(57, a)}}, api.ErrLong},
	}
	for _, f := range unfit() {
		all = append(all, struct {
			s   []api.Bind
			err api.Errno
		}{[]api.Bind{{Var: 0, To: f.term}}, f.err})
	}
	for _, f := range invalid() {
		// Of a term that is not valid a substitution tells but that.
		all = append(all, struct {
			s   []api.Bind
			err api.Errno
		}{[]api.Bind{{Var: 0, To: f.term}}, api.ErrArg})
	}
	return all
}

func TestMayWrongP11_3(t *testing.T) {
	// By every way to select there is an eligible literal, and the substitution's errors come ahead of that.
	c := list(denied(fun(6, fun(3, x(0)))), holds(fun(8)))
	for _, w := range wrongBindings() {
		for how := range 3 {
			for i := range c {
				if got, err := May(toy(), c, how, i, w.s); got || err != w.err {
					t.Errorf("P11.3: %d, %d: %v, %d, not %d", how, i, got, err, w.err)
				}
			}
			for _, i := range []int{-1, 2, 32, math.MinInt, math.MaxInt} {
				if got, err := May(toy(), c, how, i, w.s); got || err != api.ErrArg {
					t.Errorf("P11.3: %d, %d: %v, %d", how, i, got, err)
				}
			}
			if got, err := May(toy(), nil, how, 0, w.s); got || err != api.ErrArg {
				t.Errorf("P11.3: the empty clause, %d: %v, %d", how, got, err)
			}
		}
		for _, how := range []int{-1, 3, math.MinInt, math.MaxInt} {
			if got, err := May(toy(), c, how, 0, w.s); got || err != api.ErrArg {
				t.Errorf("P11.3: %d: %v, %d", how, got, err)
			}
		}
	}
}

func TestMayWrongClausesP11_3(t *testing.T) {
	unsorted := []api.Bind{{Var: 1, To: fun(1)}, {Var: 0, To: fun(1)}}
	for _, how := range []int{-1, 0, 1, 2, 3} {
		for _, i := range []int{-1, 0, 40} {
			for _, s := range [][]api.Bind{nil, unsorted, {{Var: 0, To: endless()}}} {
				for _, f := range faults() {
					if got, err := May(toy(), f.clause, how, i, s); got || err != f.err {
						t.Errorf("P11.3: %d literals, %d, %d: %v, %d, not %d", len(f.clause), how, i, got, err, f.err)
					}
				}
				for k, g := range wrongSignatures() {
					if got, err := May(g, times(33, holds(fun(0))), how, i, s); got || err != api.ErrArg {
						t.Errorf("P11.3: signature %d, %d, %d: %v, %d", k, how, i, got, err)
					}
				}
			}
		}
	}
}

// An error of a literal that is not asked for is told all the same, the first one by the places of the literals: Apply's of all come ahead of Check's.
func TestMayErrorOrderP11_3(t *testing.T) {
	p := func(n int) api.Lit { return holds(fun(6, x(n))) }
	deep, sort, unknown := api.Bind{Var: 0, To: chain(39, fun(1))}, api.Bind{Var: 1, To: fun(8)}, api.Bind{Var: 2, To: fun(10)}
	s := []api.Bind{deep, sort, unknown}
	for _, c := range []struct {
		clause []api.Lit
		want   api.Errno
	}{
		{list(p(3), p(1), p(2)), api.ErrSort},
		{list(p(3), p(2), p(1)), api.ErrArg},
		{list(p(3), p(2), p(1), p(0)), api.ErrDeep},
		{list(denied(fun(6, x(3))), p(1), p(2)), api.ErrSort},
		{list(p(3), p(4)), api.OK},
	} {
		for how := range 3 {
			if got, err := May(toy(), c.clause, how, 0, s); got != (c.want == api.OK) || err != c.want {
				t.Errorf("P11.3: %v, %d: %v, %d, not %d", c.clause, how, got, err, c.want)
			}
		}
	}
}

// maximals are the indices of the maximal literals, and of the strictly maximal ones.
func maximals(t *testing.T, g []api.Sym, c []api.Lit) (all, alone []int) {
	for i := range c {
		weak, e := Maximal(g, c, i, false)
		strict, f := Maximal(g, c, i, true)
		if e != api.OK || f != api.OK || strict && !weak {
			t.Fatalf("P11.4: %v, %d: %v, %v, %d, %d", c, i, weak, strict, e, f)
		}
		if weak {
			all = append(all, i)
		}
		if strict {
			alone = append(alone, i)
		}
	}
	return all, alone
}

func TestMaximalLiteralsP11_4(t *testing.T) {
	g := toy()
	for _, c := range append(clauses(3, small()), clauses(3, ground())...) {
		all, _ := maximals(t, g, c)
		if len(c) > 0 && len(all) == 0 {
			t.Fatalf("P11.4: %v has no maximal literal", c)
		}
		for _, i := range all {
			for _, k := range all {
				if order, _ := lit.Compare(g, c[i], c[k]); order == api.More || order == api.Less {
					t.Fatalf("P11.4: %v, %d, %d: %d", c, i, k, order)
				}
				if len(clause.Vars(c)) == 0 && !lit.Same(c[i], c[k]) {
					t.Fatalf("P11.4: %v, %d, %d are not the same", c, i, k)
				}
			}
		}
	}
}

func TestInstancesP11_4(t *testing.T) {
	g := toy()
	tried := 0
	for _, c := range clauses(3, small()[:9]) {
		_, alone := maximals(t, g, c)
		for _, s := range bindings() {
			instance, err := clause.Apply(s, c)
			if err != api.OK || clause.Check(g, instance) != api.OK {
				continue
			}
			_, after := maximals(t, g, instance)
			for _, i := range after {
				if !slices.Contains(alone, i) {
					t.Fatalf("P11.4: %v, %d becomes strictly maximal by %v", c, i, s)
				}
			}
			tried += len(c) - len(alone)
		}
	}
	if tried < 1000 {
		t.Errorf("P11.4: too few: %d", tried)
	}
}

// Nothing that is handed in is written to, and what is answered is in memory of its own.
func TestApartR2(t *testing.T) {
	for _, c := range append(clauses(2, small()), times(33, eq(x(0), x(1)))) {
		for _, s := range bindings() {
			own, g, by := copied(c), toy(), slices.Clone(s)
			for how := range 3 {
				Maximal(g, own, 0, how == 1)
				May(g, own, how, 0, by)
				selected, _ := Select(g, own, how)
				want := slices.Clone(selected)
				overwrite(selected)
				if again, _ := Select(g, own, how); !slices.Equal(again, want) {
					t.Fatalf("R2: %v, %d: %v, not %v", c, how, again, want)
				}
			}
			if !identical(own, c) || !slices.Equal(g, toy()) || !slices.EqualFunc(by, s, sameBind) {
				t.Fatalf("R2: %v was changed to %v, or the signature to %v, or %v to %v", c, own, g, s, by)
			}
		}
	}
}

func overwrite(list []int) {
	list = list[:cap(list)]
	for i := range list {
		list[i] = 777
	}
}

func sameBind(a, b api.Bind) bool { return a.Var == b.Var && term.Same(a.To, b.To) }

// No call hangs on the calls before it, with whatever signature.
func TestAgainR3(t *testing.T) {
	c := list(ne(fun(1), fun(1)), ne(fun(2), fun(2)), ne(fun(9), fun(2)))
	for range 3 {
		for _, k := range []struct {
			g        []api.Sym
			at, most int
		}{{toy(), 2, 2}, {heavy(), 0, 0}} {
			if got, err := Select(k.g, c, api.SelectHeavy); !slices.Equal(got, []int{k.at}) || err != api.OK {
				t.Errorf("R3: %v, %d", got, err)
			}
			if got, err := May(k.g, c, api.SelectNone, k.most, nil); !got || err != api.OK {
				t.Errorf("R3: %v, %d", got, err)
			}
			if got, err := Select(k.g, c, api.SelectFirst); !slices.Equal(got, []int{0}) || err != api.OK {
				t.Errorf("R3: %v, %d", got, err)
			}
			Select(nil, c, 7)
			May(k.g, c, 2, 9, []api.Bind{{Var: 0, To: endless()}})
			Maximal(k.g, list(eq(endless(), endless())), 0, true)
		}
	}
}
