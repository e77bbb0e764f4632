package resolve

import (
	"math"
	"slices"
	"testing"

	"elenchus/api"
	"elenchus/clause"
	"elenchus/kbo"
	"elenchus/maxim"
	"elenchus/subst"
	"elenchus/term"
	"elenchus/unify"
)

func fun(head int, args ...api.Term) api.Term { return api.Term{Head: head, Args: args} }

func x(n int, args ...api.Term) api.Term { return api.Term{Head: -1 - n, Args: args} }

func eq(l, r api.Term) api.Lit { return api.Lit{L: l, R: r} }

func ne(l, r api.Term) api.Lit { return api.Lit{Neg: true, L: l, R: r} }

func holds(atom api.Term) api.Lit { return eq(atom, fun(0)) }

func denied(atom api.Term) api.Lit { return ne(atom, fun(0)) }

func list(c ...api.Lit) []api.Lit { return c }

// times is a clause of one literal, n times.
func times(n int, l api.Lit) []api.Lit { return slices.Repeat([]api.Lit{l}, n) }

// chain is f(f(.. (end))), of n levels above the end.
func chain(n int, end api.Term) api.Term {
	for range n {
		end = fun(3, end)
	}
	return end
}

// doubled is a full binary tree of n levels above the end, its lists shared on every level.
func doubled(n int, end api.Term) api.Term {
	for range n {
		end = fun(4, end, end)
	}
	return end
}

// broad is a flat term of n symbols with seven arguments each; its size is 7 * n + 1, if that of the leaf is 1.
func broad(n int, leaf api.Term) api.Term { return broadFrom(0, n, leaf) }

// broadFrom is the ith subterm, counted level by level.
func broadFrom(i, n int, leaf api.Term) api.Term {
	if i >= n {
		return leaf
	}
	t := fun(5)
	for k := range 7 {
		t.Args = append(t.Args, broadFrom(7*i+1+k, n, leaf))
	}
	return t
}

// endless holds itself.
func endless() api.Term {
	args := make([]api.Term, 1)
	args[0] = fun(3, args...)
	return args[0]
}

// toy: 1 and 2 are a and b, 3 to 5 are f, g and w, of one, two and seven arguments; 6 to 8 are the predicates p, q and r, of one, two and no arguments; 9 is c, heavier than the others.
func toy() []api.Sym {
	return []api.Sym{{Name: "$true", Weight: 1, Truth: true}, {Name: "a", Weight: 1}, {Name: "b", Weight: 1},
		{Name: "f", Arity: 1, Weight: 1}, {Name: "g", Arity: 2, Weight: 1}, {Name: "w", Arity: 7, Weight: 1},
		{Name: "p", Arity: 1, Weight: 1, Truth: true}, {Name: "q", Arity: 2, Weight: 1, Truth: true}, {Name: "r", Weight: 1, Truth: true},
		{Name: "c", Weight: 5}}
}

// wrongSignatures are some that are not valid.
func wrongSignatures() [][]api.Sym {
	with := func(at int, s api.Sym) []api.Sym {
		g := toy()
		g[at] = s
		return g
	}
	return [][]api.Sym{nil, {}, toy()[1:], with(0, api.Sym{Name: "$true", Weight: 1}), with(1, api.Sym{Name: "b", Weight: 1}),
		with(1, api.Sym{Weight: 1}), with(1, api.Sym{Name: "a"}), with(3, api.Sym{Name: "f", Arity: 9, Weight: 1}), append(toy(), make([]api.Sym, 300)...)}
}

type faultyTerm struct {
	name string
	term api.Term
	err  api.Errno
}

// unfit are valid terms that are not terms over the toy, with the errors of layer 7's Term.
func unfit() []faultyTerm {
	a := fun(1)
	return []faultyTerm{
		{"no symbol", fun(10), api.ErrArg},
		{"no symbol inside", fun(4, a, fun(10)), api.ErrArg},
		{"too few arguments", fun(4, a), api.ErrArg},
		{"an argument of $true", fun(0, a), api.ErrArg},
		{"an atom inside", fun(3, fun(6, a)), api.ErrSort},
		{"$true inside", fun(6, fun(0)), api.ErrSort},
	}
}

// invalid are terms of every kind that is not valid, with the errors of layer 1's Check.
func invalid() []faultyTerm {
	a := fun(1)
	return []faultyTerm{
		{"variable 256", x(256), api.ErrArg},
		{"variable 256 inside", fun(3, x(256)), api.ErrArg},
		{"a variable with an argument", fun(3, x(0, a)), api.ErrArg},
		{"head 1024", fun(1024), api.ErrArg},
		{"nine arguments", fun(5, a, a, a, a, a, a, a, a, a), api.ErrArg},
		{"too deep", chain(40, a), api.ErrDeep},
		{"too long", broad(58, a), api.ErrLong},
		{"shared without measure", doubled(300, a), api.ErrLong},
		{"no end", endless(), api.ErrLong},
	}
}

type faultyClause struct {
	clause []api.Lit
	err    api.Errno
}

// faults are clauses of every kind that is not valid over the toy, with the errors of layer 10's Check.
func faults() []faultyClause {
	fine := denied(fun(6, x(0)))
	all := []faultyClause{{times(33, fine), api.ErrLong}, {make([]api.Lit, 100000), api.ErrLong}, {times(33, eq(fun(0), fun(8))), api.ErrLong}}
	literals := []faultyClause{{list(eq(fun(0), fun(8))), api.ErrSort}, {list(ne(x(0), fun(0))), api.ErrSort}, {list(ne(fun(6, x(0)), fun(1))), api.ErrSort}}
	for _, f := range append(unfit(), invalid()...) {
		literals = append(literals, faultyClause{list(eq(f.term, x(0))), f.err}, faultyClause{list(ne(fun(1), f.term)), f.err})
	}
	for _, l := range literals {
		all = append(all, l, faultyClause{append(list(fine), l.clause...), l.err}, faultyClause{append(l.clause, fine), l.err})
	}
	return all
}

// clauses are all of up to so many of the literals.
func clauses(upTo int, pool []api.Lit) [][]api.Lit {
	all := [][]api.Lit{nil}
	for first, n := 0, 0; n < upTo; n++ {
		end := len(all)
		for ; first < end; first++ {
			for _, l := range pool {
				all = append(all, append(slices.Clone(all[first]), l))
			}
		}
	}
	return all
}

func copied(c []api.Lit) []api.Lit {
	c = slices.Clone(c)
	for i, l := range c {
		c[i].L, c[i].R = term.Copy(l.L), term.Copy(l.R)
	}
	return c
}

// identical is narrower than layer 9's Same of each: the sides are in the same order too.
func identical(c, d []api.Lit) bool {
	return slices.EqualFunc(c, d, func(a, b api.Lit) bool { return a.Neg == b.Neg && term.Same(a.L, b.L) && term.Same(a.R, b.R) })
}

func sameBind(a, b api.Bind) bool { return a.Var == b.Var && term.Same(a.To, b.To) }

// to is a substitution: variables and what stands for them by turns.
func to(v int, t api.Term, more ...api.Bind) []api.Bind {
	return append([]api.Bind{{Var: v, To: t}}, more...)
}

func got(i, k int, by []api.Bind, c ...api.Lit) api.Got {
	return api.Got{Clause: c, Lits: [2]int{i, k}, By: by}
}

func sameGot(a, b api.Got) bool {
	return a.Lits == b.Lits && len(a.Place) == 0 && len(b.Place) == 0 && slices.EqualFunc(a.By, b.By, sameBind) && identical(a.Clause, b.Clause)
}

func sameGots(a, b []api.Got) bool { return slices.EqualFunc(a, b, sameGot) }

// inference is Equal or Factor.
type inference func(g []api.Sym, c []api.Lit, how int) ([]api.Got, int, api.Errno)

func both() []inference { return []inference{Equal, Factor} }

// small are literals few enough for all clauses of three of them.
func small() []api.Lit {
	a, fx := fun(1), fun(3, x(0))
	return []api.Lit{eq(a, fx), ne(fx, a), eq(x(0), x(1)), ne(x(1), x(0)), eq(fun(3, x(1)), fun(2)), ne(fun(4, x(1), x(0)), fun(4, a, x(1))),
		holds(fun(6, x(0))), holds(fun(6, fun(3, x(1)))), denied(fun(6, x(1))), holds(fun(7, a, x(1))), holds(fun(7, x(0), fun(2))), denied(fun(0)), holds(fun(0)), eq(x(2), fun(9))}
}

// deep and long are literals whose sides' unifiers exceed a limit.

func deep(neg bool) api.Lit {
	return api.Lit{Neg: neg, L: fun(4, x(0), x(1)), R: fun(4, chain(30, x(1)), chain(30, x(2)))}
}

func long(neg bool) api.Lit {
	return api.Lit{Neg: neg, L: fun(4, x(0), x(1)), R: fun(4, broad(28, x(1)), broad(28, x(2)))}
}

// The document's words, one by one, to hold the package against.

// plainConclusion is Norm of Tidy of the clause described, with the unifier applied; false: it is lost.
func plainConclusion(g []api.Sym, c []api.Lit, by []api.Bind) ([]api.Lit, bool) {
	applied, err := clause.Apply(by, c)
	if err != 0 {
		return nil, false
	}
	norm, err := clause.Norm(clause.Tidy(applied))
	return norm, err == 0 && clause.Check(g, norm) == 0
}

func plainEqual(g []api.Sym, c []api.Lit, how int) (all []api.Got, lost int, err api.Errno) {
	if _, err = maxim.Select(g, c, how); err != 0 {
		return nil, 0, err
	}
	for i := 0; i < len(c); i++ {
		if !c[i].Neg {
			continue
		}
		by, ok, wrong := unify.Mgu(c[i].L, c[i].R)
		if wrong != 0 {
			lost++
			continue
		}
		if !ok {
			continue
		}
		may, wrong := maxim.May(g, c, how, i, by)
		if wrong != 0 {
			lost++
			continue
		}
		if !may {
			continue
		}
		if made, ok := plainConclusion(g, slices.Delete(slices.Clone(c), i, i+1), by); ok {
			all = append(all, api.Got{Clause: made, Lits: [2]int{i, -1}, By: by})
		} else {
			lost++
		}
	}
	return all, lost, 0
}

func plainFactor(g []api.Sym, c []api.Lit, how int) (all []api.Got, lost int, err api.Errno) {
	selected, err := maxim.Select(g, c, how)
	if err != 0 || len(selected) > 0 {
		return nil, 0, err
	}
	for i := range c {
		for k := range c {
			if i == k || c[i].Neg || c[k].Neg {
				continue
			}
			for _, s := range [][2]api.Term{{c[i].L, c[i].R}, {c[i].R, c[i].L}} {
				for _, u := range [][2]api.Term{{c[k].L, c[k].R}, {c[k].R, c[k].L}} {
					by, lose := plainFactoring(g, c, i, s, u)
					if lose {
						lost++
					}
					if lose || by == nil {
						continue
					}
					described := append(slices.Delete(slices.Clone(c), i, i+1), ne(s[1], u[1]))
					if made, ok := plainConclusion(g, described, *by); ok {
						all = append(all, api.Got{Clause: made, Lits: [2]int{i, k}, By: *by})
					} else {
						lost++
					}
				}
			}
		}
	}
	return all, lost, 0
}

// plainFactoring is the unifier of the first of s and of u, nil if nothing is concluded; true: what would be is lost.
func plainFactoring(g []api.Sym, c []api.Lit, i int, s, u [2]api.Term) (*[]api.Bind, bool) {
	individual := func(t api.Term) bool { return t.Head < 0 || !g[t.Head].Truth }
	atom := func(t api.Term) bool { return !individual(t) && g[t.Head].Name != "$true" }
	if !(individual(s[0]) && individual(u[0])) && !(atom(s[0]) && atom(u[0])) {
		return nil, false
	}
	by, ok, err := unify.Mgu(s[0], u[0])
	if err != 0 {
		return nil, true
	}
	if !ok {
		return nil, false
	}
	applied, err := clause.Apply(by, c)
	if err != 0 || clause.Check(g, applied) != 0 {
		return nil, true
	}
	left, _ := subst.Apply(by, s[0])
	right, _ := subst.Apply(by, s[1])
	order, _ := kbo.Compare(g, left, right)
	maximal, _ := maxim.Maximal(g, applied, i, false)
	if order == api.Less || order == api.Equal || !maximal {
		return nil, false
	}
	return &by, false
}

type example struct {
	name   string
	clause []api.Lit
	how    int
	want   []api.Got
	lost   int
}

func (e example) try(t *testing.T, promise string, infer inference) {
	t.Helper()
	if l, lost, err := infer(toy(), e.clause, e.how); !sameGots(l, e.want) || lost != e.lost || err != api.OK {
		t.Errorf("%s: %s: %v, %d, %d; not %v, %d", promise, e.name, l, lost, err, e.want, e.lost)
	}
}

func TestEqualP12_1(t *testing.T) {
	a, b, c := fun(1), fun(2), fun(9)
	p := func(t api.Term) api.Term { return fun(6, t) }
	f := func(t api.Term) api.Term { return fun(3, t) }
	for _, e := range []example{
		{"the document's example", list(ne(f(x(0)), f(a)), eq(x(0), b)), 0, []api.Got{got(0, -1, to(0, a), eq(a, b))}, 0},
		{"the empty clause", nil, 0, nil, 0},
		{"nothing is left", list(ne(x(0), x(1))), 0, []api.Got{got(0, -1, to(1, x(0)))}, 0},
		{"no binding", list(ne(f(x(4)), f(x(4))), holds(p(x(7)))), 1, []api.Got{got(0, -1, nil, holds(p(x(0))))}, 0},
		{"Norm", list(holds(fun(7, x(9), x(7))), ne(x(5), x(7))), 1, []api.Got{got(1, -1, to(7, x(5)), holds(fun(7, x(0), x(1))))}, 0},
		{"Tidy", list(holds(p(a)), ne(x(0), a), denied(fun(0)), holds(p(x(0))), ne(a, a), eq(x(0), a), eq(a, a)), 1, []api.Got{got(1, -1, to(0, a), holds(p(a)), eq(a, a))}, 0},
		{"$true", list(denied(fun(0)), holds(fun(8))), 1, []api.Got{got(0, -1, nil, holds(fun(8)))}, 0},
		{"twice", list(ne(x(0), a), ne(x(0), a)), 0, []api.Got{got(0, -1, to(0, a)), got(1, -1, to(0, a))}, 0},
		{"twice, with the sides exchanged", list(ne(f(x(0)), f(a)), ne(f(a), f(x(0)))), 0, []api.Got{got(0, -1, to(0, a)), got(1, -1, to(0, a))}, 0},
		{"the left variable, and the greater one", list(ne(x(2), x(1)), holds(p(x(1)))), 1, []api.Got{got(0, -1, to(2, x(1)), holds(p(x(0))))}, 0},
		{"not negative", list(eq(x(0), a)), 0, nil, 0},
		{"two symbols", list(ne(a, b)), 0, nil, 0},
		{"a term in itself", list(ne(f(x(0)), x(0))), 0, nil, 0},
		{"an atom", list(denied(p(x(0)))), 0, nil, 0},
		{"not maximal", list(ne(x(0), a), holds(p(f(x(0))))), 0, nil, 0},
		{"not maximal, but selected", list(ne(x(0), a), holds(p(f(x(0))))), 1, []api.Got{got(0, -1, to(0, a), holds(p(f(a))))}, 0},
		{"not maximal, but the heaviest", list(ne(x(0), a), holds(p(f(x(0))))), 2, []api.Got{got(0, -1, to(0, a), holds(p(f(a))))}, 0},
		{"maximal only ahead of the unifier", list(ne(x(0), fun(4, a, a)), eq(x(0), c), holds(p(x(0)))), 0, nil, 0},
		{"maximal only by the unifier", list(ne(x(0), c), holds(p(a))), 0, []api.Got{got(0, -1, to(0, c), holds(p(a)))}, 0},
		{"maximal, not strictly", list(ne(x(0), c), holds(p(a)), ne(c, x(0))), 0, []api.Got{got(0, -1, to(0, c), holds(p(a))), got(2, -1, to(0, c), holds(p(a)))}, 0},
		{"the first is selected, the second would do", list(ne(a, b), ne(x(0), x(1))), 1, nil, 0},
		{"the heaviest is selected", list(ne(x(1), a), ne(x(0), c)), 2, []api.Got{got(1, -1, to(0, c), ne(x(0), a))}, 0},
		{"the first is selected", list(holds(p(c)), ne(x(1), a), ne(x(0), c)), 1, []api.Got{got(1, -1, to(1, a), holds(p(c)), ne(x(0), c))}, 0},
		{"nothing is selected", list(ne(x(1), a), ne(x(0), c)), 0, []api.Got{got(1, -1, to(0, c), ne(x(0), a))}, 0},
		{"neither is greater", list(ne(x(1), a), ne(x(0), a)), 1, []api.Got{got(0, -1, to(1, a), ne(x(0), a))}, 0},
	} {
		e.try(t, "P12.1", Equal)
	}
}

func TestLostP12_1(t *testing.T) {
	a, b := fun(1), fun(2)
	over := holds(fun(6, chain(30, x(0))))
	for _, e := range []example{
		{"a unifier that is too deep", list(deep(true)), 0, nil, 1},
		{"a unifier that is too long", list(long(true)), 0, nil, 1},
		{"the clause becomes too deep", list(ne(x(0), chain(9, a)), over), 0, nil, 1},
		{"the clause stays as deep as it may", list(ne(x(0), chain(8, a)), over), 1, []api.Got{got(0, -1, to(0, chain(8, a)), holds(fun(6, chain(38, a))))}, 0},
		{"the clause becomes too long", list(eq(broad(57, x(0)), a), ne(x(0), chain(1, a))), 1, nil, 1},
		{"the clause stays as long as it may", list(eq(broad(57, x(0)), a), ne(x(0), a)), 1, []api.Got{got(1, -1, to(0, a), eq(broad(57, a), a))}, 0},
		{"the literal itself, which would not be left", list(ne(fun(4, chain(30, x(0)), x(0)), fun(4, chain(30, x(1)), chain(9, a)))), 0, nil, 1},
		{"not selected, a unifier", list(ne(a, b), deep(true)), 1, nil, 1},
		{"not selected, the clause", list(ne(a, b), ne(x(0), chain(9, a)), over), 1, nil, 1},
		{"several", list(deep(true), ne(x(9), x(0)), long(true), ne(x(0), chain(11, b)), over), 0, nil, 3},
		{"beside a conclusion", list(ne(x(9), x(8)), deep(true), holds(fun(6, x(9)))), 1, []api.Got{got(0, -1, to(9, x(8)), ne(fun(4, x(0), x(1)), fun(4, chain(30, x(1)), chain(30, x(2)))), holds(fun(6, x(3))))}, 1},
		{"no unifier at all", list(ne(fun(4, x(0), a), fun(4, chain(30, x(1)), b))), 0, nil, 0},
		{"not negative", list(deep(false), long(false)), 0, nil, 0},
	} {
		e.try(t, "P12.1", Equal)
	}
}

func TestManyLiteralsP12_1(t *testing.T) {
	var c []api.Lit
	for n := range 32 {
		c = append(c, ne(x(n), x(n+100)))
	}
	l, lost, err := Equal(toy(), c, 0)
	if len(l) != 32 || lost != 0 || err != api.OK {
		t.Fatalf("P12.1: %d, %d, %d", len(l), lost, err)
	}
	for i, made := range l {
		if made.Lits != [2]int{i, -1} || len(made.Clause) != 31 {
			t.Errorf("P12.1: %d: %v", i, made)
		}
	}
}

func TestFactorP12_2(t *testing.T) {
	a, b, c := fun(1), fun(2), fun(9)
	p := func(t api.Term) api.Lit { return holds(fun(6, t)) }
	f := func(t api.Term) api.Term { return fun(3, t) }
	for _, e := range []example{
		{"atoms", list(p(x(0)), p(f(x(1)))), 0, []api.Got{got(0, 1, to(0, f(x(1))), p(f(x(0)))), got(1, 0, to(0, f(x(1))), p(f(x(0))))}, 0},
		{"atoms, the second greater", list(p(x(0)), holds(fun(7, x(0), x(1))), p(x(1))), 0, nil, 0},
		{"atoms and negative ones, not selected", list(denied(fun(6, a)), p(x(0)), denied(fun(6, x(0))), p(c)), 0, nil, 0},
		{"a negative one beside", list(denied(fun(6, a)), p(x(3)), p(x(2))), 0, []api.Got{got(1, 2, to(3, x(2)), denied(fun(6, a)), p(x(0))), got(2, 1, to(3, x(2)), denied(fun(6, a)), p(x(0)))}, 0},
		{"a negative one is selected, the first", list(p(x(0)), p(x(1)), denied(fun(6, a))), 1, nil, 0},
		{"a negative one is selected, the heaviest", list(p(x(0)), p(x(1)), denied(fun(6, a))), 2, nil, 0},
		{"none is negative, by the first", list(p(a), p(a)), 1, []api.Got{got(0, 1, nil, p(a)), got(1, 0, nil, p(a))}, 0},
		{"none is negative, by the heaviest", list(p(a), p(a)), 2, []api.Got{got(0, 1, nil, p(a)), got(1, 0, nil, p(a))}, 0},
		{"two predicates", list(p(x(0)), holds(fun(7, x(1), x(2))), holds(fun(8))), 0, nil, 0},
		{"a predicate without arguments", list(holds(fun(8)), holds(fun(8)), p(a)), 0, nil, 0},
		{"$true", list(holds(fun(0)), holds(fun(0)), holds(fun(0))), 0, nil, 0},
		{"one literal", list(eq(f(x(0)), f(a))), 0, nil, 0},
		{"the empty clause", nil, 0, nil, 0},
		{"an atom and an individual", list(eq(x(0), x(1)), p(a)), 0, nil, 0},
		{"both left", list(eq(f(x(0)), a), eq(f(b), b)), 0, []api.Got{got(1, 0, to(0, b), eq(f(b), a), ne(b, a))}, 0},
		{"left and right", list(eq(f(x(0)), a), eq(b, f(b))), 0, []api.Got{got(1, 0, to(0, b), eq(f(b), a), ne(b, a))}, 0},
		{"right and left", list(eq(a, f(b)), eq(f(x(0)), b)), 0, []api.Got{got(1, 0, to(0, b), eq(a, f(b)), ne(b, a))}, 0},
		{"the same twice", list(eq(f(a), b), eq(b, f(a))), 0, []api.Got{got(0, 1, nil, eq(b, f(a))), got(1, 0, nil, eq(f(a), b))}, 0},
		{"the same sides", list(eq(a, a), eq(a, a)), 0, nil, 0},
		{"the order by the unifier", list(eq(x(0), b), eq(c, a)), 0, []api.Got{got(0, 1, to(0, c), eq(c, a), ne(b, a))}, 0},
		{"neither side is greater", list(eq(x(0), a), eq(x(1), b)), 0, []api.Got{
			got(0, 1, to(0, b), eq(x(0), b), ne(a, x(0))), got(0, 1, to(1, a), eq(a, b), ne(x(0), b)),
			got(1, 0, to(1, x(0)), eq(x(0), a), ne(b, a)), got(1, 0, to(0, b), eq(b, a), ne(x(0), a))}, 0},
		{"a third literal is greater", list(eq(f(x(0)), a), eq(f(b), b), p(fun(4, x(0), x(1)))), 0, nil, 0},
		{"a third literal becomes greater", list(eq(f(x(0)), b), eq(f(a), a), eq(fun(4, a, a), a)), 0, nil, 0},
		{"a third literal stays no greater", list(eq(f(x(0)), b), eq(f(x(1)), a), eq(fun(4, a, a), a)), 0, []api.Got{got(0, 1, to(1, x(0)), eq(f(x(0)), a), eq(fun(4, a, a), a), ne(b, a))}, 0},
	} {
		e.try(t, "P12.2", Factor)
	}
}

func TestLostP12_2(t *testing.T) {
	a, b := fun(1), fun(2)
	over := denied(fun(6, chain(30, x(0))))
	p := func(t api.Term) api.Lit { return holds(fun(6, t)) }
	for _, e := range []example{
		// g(x0, x1) with the other side, in both orders; each literal has a side that is no partner.
		{"unifiers that are too deep", list(eq(fun(4, x(0), x(1)), a), eq(fun(4, chain(30, x(1)), chain(30, x(2))), a)), 0, nil, 2},
		{"unifiers that are too long", list(eq(a, fun(4, x(0), x(1))), eq(fun(4, broad(28, x(1)), broad(28, x(2))), b)), 0, nil, 2},
		{"atoms", list(holds(fun(7, x(0), x(1))), holds(fun(7, chain(30, x(1)), chain(30, x(2))))), 0, nil, 2},
		{"the clause becomes too deep", list(p(x(0)), p(chain(9, a)), over), 0, nil, 2},
		{"the clause stays as deep as it may", list(p(x(0)), p(chain(8, a)), over), 0, nil, 0},
		{"the clause becomes too long", list(p(x(0)), p(chain(1, a)), ne(broad(57, x(0)), a)), 0, nil, 2},
		{"the clause stays as long as it may", list(p(x(0)), p(a), ne(broad(57, x(0)), a)), 0, nil, 0},
		{"the literal itself", list(holds(fun(7, chain(30, x(0)), x(0))), holds(fun(7, chain(30, x(1)), chain(9, a)))), 0, nil, 2},
		{"a negative one is selected", list(p(x(0)), p(chain(9, a)), over), 1, nil, 0},
		{"no unifier at all", list(eq(fun(4, x(0), a), a), eq(fun(4, chain(30, x(1)), b), b)), 0, nil, 0},
		{"negative ones", list(deep(true), deep(true), long(true)), 0, nil, 0},
		{"one and the same", list(deep(false)), 0, nil, 0},
	} {
		e.try(t, "P12.2", Factor)
	}
}

// What becomes too deep is lost, even where s is less than t.
func TestLostAheadOfOrderP12_2(t *testing.T) {
	a, c, over := fun(1), fun(9), denied(fun(6, chain(30, x(0))))
	// What x0 becomes is less than f(x0), but once it is too deep.
	example{"ahead of the sides' order", list(eq(x(0), chain(1, x(0))), eq(chain(9, a), c), over), 0, nil, 2}.try(t, "P12.2", Factor)
	example{"less deep", list(eq(x(0), chain(1, x(0))), eq(chain(8, a), c), over), 0, nil, 0}.try(t, "P12.2", Factor)
	example{"s less than t in both literals", list(eq(x(0), chain(12, a)), eq(chain(9, a), chain(10, a)), over), 0, nil, 4}.try(t, "P12.2", Factor)
}

func TestOrderOfConclusionsP12_2(t *testing.T) {
	c := list(eq(x(0), x(1)), eq(x(2), x(3)), eq(x(4), x(5)))
	l, lost, err := Factor(toy(), c, 0)
	var want [][2]int
	var bound []int
	for i := range 3 {
		for k := range 3 {
			for s := range 2 {
				for u := range 2 {
					if i != k {
						want = append(want, [2]int{i, k})
						bound = append(bound, max(2*i+s, 2*k+u))
					}
				}
			}
		}
	}
	if len(l) != len(want) || lost != 0 || err != api.OK {
		t.Fatalf("P12.2: %v, %d, %d", l, lost, err)
	}
	for n, made := range l {
		if made.Lits != want[n] || len(made.By) != 1 || made.By[0].Var != bound[n] {
			t.Errorf("P12.2: %d: %v, not %v, %d", n, made, want[n], bound[n])
		}
	}
}

func TestManyLiteralsP12_2(t *testing.T) {
	var c []api.Lit
	for n := range 32 {
		c = append(c, holds(fun(6, x(n))))
	}
	l, lost, err := Factor(toy(), c, 0)
	if len(l) != 32*31 || lost != 0 || err != api.OK {
		t.Fatalf("P12.2: %d, %d, %d", len(l), lost, err)
	}
	for n, made := range l {
		i, k := n/31, n%31
		if k >= i {
			k++
		}
		if made.Lits != [2]int{i, k} || len(made.Clause) != 31 {
			t.Fatalf("P12.2: %d, %d: %v", i, k, made)
		}
	}
}

// pools are lists of clauses that are few enough to try all of them.
func pools() [][]api.Lit {
	all := append(clauses(2, small()), clauses(3, small()[:8])...)
	extra := list(deep(true), long(false), ne(x(0), chain(9, fun(1))), eq(x(0), chain(9, fun(2))), holds(fun(6, chain(30, x(0)))), eq(fun(9), x(0)))
	return append(all, clauses(3, extra)...)
}

func TestSmallP12_1_P12_2(t *testing.T) {
	g := toy()
	for n, infer := range both() {
		plain := []inference{plainEqual, plainFactor}[n]
		made, missed := 0, 0
		for _, c := range pools() {
			for how := -1; how <= 3; how++ {
				want, miss, wrong := plain(g, c, how)
				if l, lost, err := infer(g, c, how); !sameGots(l, want) || lost != miss || err != wrong {
					t.Fatalf("P12.%d: %v, %d: %v, %d, %d, not %v, %d, %d", n+1, c, how, l, lost, err, want, miss, wrong)
				}
				made += len(want)
				missed += miss
			}
		}
		if made < 1000 || missed < 100 {
			t.Errorf("P12.%d: too few kinds: %d, %d", n+1, made, missed)
		}
	}
}

// Which side and which literal is greater hangs on the signature.
func TestFactorByWeightsP12_2(t *testing.T) {
	g := toy()
	c := list(eq(fun(1), fun(2)), eq(fun(1), fun(9)))
	if l, _, _ := Factor(g, c, 0); len(l) != 0 {
		t.Errorf("P12.2: %v", l)
	}
	g[1].Weight = 9
	if l, _, _ := Factor(g, c, 0); len(l) != 1 || l[0].Lits != [2]int{1, 0} {
		t.Errorf("P12.2: %v", l)
	}
}

func TestWrongP12_1_P12_2(t *testing.T) {
	for n, infer := range both() {
		none := func(what string, g []api.Sym, c []api.Lit, how int, want api.Errno) {
			t.Helper()
			if l, lost, err := infer(g, c, how); l != nil || lost != 0 || err != want {
				t.Errorf("P12.%d: %s, %d: %v, %d, %d, not %d", n+1, what, how, l, lost, err, want)
			}
		}
		for _, how := range []int{0, 1, 2, -1, 3, math.MinInt, math.MaxInt} {
			for _, f := range faults() {
				none("a clause", toy(), f.clause, how, f.err)
			}
			for _, g := range wrongSignatures() {
				for _, c := range [][]api.Lit{nil, list(denied(fun(0))), times(33, holds(fun(0))), list(ne(endless(), endless()))} {
					none("a signature", g, c, how, api.ErrArg)
				}
			}
		}
		for _, how := range []int{-1, 3, math.MinInt, math.MaxInt} {
			for _, c := range [][]api.Lit{nil, list(ne(x(0), x(1))), list(eq(x(0), x(1)), eq(x(2), x(3))), list(deep(true), deep(false), long(false))} {
				none("a way to select", toy(), c, how, api.ErrArg)
			}
		}
	}
}

// world is an interpretation of the toy's $true, a, b, f, p and r; its things are 0 to size-1.
type world struct {
	size int
	a, b int
	f    []int
	p    []int // 1 or 0
	r    int
}

// rows lists all rows of n numbers below a bound.
func rows(n, below int) [][]int {
	all := [][]int{nil}
	for range n {
		var longer [][]int
		for _, row := range all {
			for v := range below {
				longer = append(longer, append(slices.Clone(row), v))
			}
		}
		all = longer
	}
	return all
}

// worlds are all those of one and of two things.
func worlds() []world {
	var all []world
	for size := 1; size <= 2; size++ {
		for _, constants := range rows(2, size) {
			for _, f := range rows(size, size) {
				for _, truths := range rows(size+1, 2) {
					all = append(all, world{size, constants[0], constants[1], f, truths[:size], truths[size]})
				}
			}
		}
	}
	return all
}

// value is a thing, or, of an atom, 1 or 0.
func (w world) value(t api.Term, things []int) int {
	switch t.Head {
	case 0:
		return 1
	case 1:
		return w.a
	case 2:
		return w.b
	case 3:
		return w.f[w.value(t.Args[0], things)]
	case 6:
		return w.p[w.value(t.Args[0], things)]
	case 8:
		return w.r
	}
	return things[-1-t.Head]
}

// holds reports whether for all things that may stand for its variables, 0 to 2, one of the literals holds.
func (w world) holds(c []api.Lit) bool {
	for _, things := range rows(3, w.size) {
		if !slices.ContainsFunc(c, func(l api.Lit) bool {
			return l.Neg != (w.value(l.L, things) == w.value(l.R, things))
		}) {
			return false
		}
	}
	return true
}

func TestConclusionsHoldP12_3(t *testing.T) {
	a, b, fx, fy := fun(1), fun(2), fun(3, x(0)), fun(3, x(1))
	pool := list(eq(a, fx), ne(fx, a), eq(x(2), x(0)), ne(x(0), x(1)), eq(fy, b), eq(fx, fy), ne(fx, fy), eq(fun(3, b), a),
		holds(fun(6, x(2))), holds(fun(6, fy)), denied(fun(6, fy)), holds(fun(6, a)), holds(fun(8)))
	all := worlds()
	for n, infer := range both() {
		tried, told := 0, 0
		for _, c := range clauses(3, pool) {
			var made []api.Got
			for how := range 3 {
				l, _, _ := infer(toy(), c, how)
				made = append(made, l...)
			}
			for _, w := range all {
				if len(made) == 0 || !w.holds(c) {
					continue
				}
				for _, conclusion := range made {
					if !w.holds(conclusion.Clause) {
						t.Fatalf("P12.3: %v holds in %v, but %v does not", c, w, conclusion)
					}
					tried++
				}
			}
			for _, conclusion := range made {
				if slices.ContainsFunc(all, func(w world) bool { return !w.holds(conclusion.Clause) }) {
					told++
				}
			}
		}
		if tried < 10000 || told < 500 {
			t.Errorf("P12.3: %d: too few: %d, %d", n, tried, told)
		}
	}
}

// Nothing that is handed in is written to, and what is answered is in memory of its own.
func TestApartR2(t *testing.T) {
	for _, infer := range both() {
		for _, c := range pools()[:400] {
			own, g := copied(c), toy()
			for how := range 3 {
				l, lost, err := infer(g, own, how)
				want, _, _ := infer(toy(), copied(c), how)
				for n := range l {
					overwrite(l[n])
					if !sameGots(l[n+1:], want[n+1:]) {
						t.Fatalf("R2: %v, %d: conclusions share memory", c, how)
					}
				}
				again, missed, wrong := infer(g, own, how)
				if !identical(own, c) || !slices.Equal(g, toy()) || !sameGots(again, want) || missed != lost || wrong != err {
					t.Fatalf("R2: %v, %d was changed: %v, %v; %v, not %v", c, how, own, g, again, want)
				}
			}
		}
	}
}

// overwrite spoils all that a conclusion holds.
func overwrite(made api.Got) {
	for i := range made.Clause {
		spoil(made.Clause[i].L)
		spoil(made.Clause[i].R)
		made.Clause[i] = ne(fun(777), fun(777))
	}
	for i := range made.By {
		spoil(made.By[i].To)
		made.By[i] = api.Bind{Var: 777}
	}
}

func spoil(t api.Term) {
	for i := range t.Args {
		spoil(t.Args[i])
		t.Args[i] = fun(777)
	}
}

// The lists of one conclusion share no memory either.
func TestListsApartR2(t *testing.T) {
	for _, infer := range both() {
		for _, c := range pools()[:400] {
			l, _, _ := infer(toy(), c, 0)
			want, _, _ := infer(toy(), c, 0)
			for n := range l {
				overwrite(api.Got{By: l[n].By})
				if !identical(l[n].Clause, want[n].Clause) {
					t.Fatalf("R2: %v: %v, not %v", c, l[n].Clause, want[n].Clause)
				}
				for i := range l[n].Clause {
					spoil(l[n].Clause[i].L)
					if !term.Same(l[n].Clause[i].R, want[n].Clause[i].R) || !identical(l[n].Clause[i+1:], want[n].Clause[i+1:]) {
						t.Fatalf("R2: %v: the sides of %v share memory", c, want[n].Clause)
					}
					spoil(l[n].Clause[i].R)
				}
			}
		}
	}
}

// No call hangs on the calls before it, with whatever signature.
func TestAgainR3(t *testing.T) {
	heavy := toy()
	heavy[1].Weight = 9
	c := list(eq(fun(1), fun(2)), eq(fun(1), fun(9)), ne(x(0), fun(1)))
	for range 3 {
		for n, g := range [][]api.Sym{toy(), heavy} {
			if l, lost, err := Factor(g, c[:2], 0); len(l) != n || lost != 0 || err != api.OK {
				t.Errorf("R3: %v, %d, %d", l, lost, err)
			}
			if l, lost, err := Equal(g, c, 0); len(l) != n || lost != 0 || err != api.OK {
				t.Errorf("R3: %v, %d, %d", l, lost, err)
			}
			for _, infer := range both() {
				infer(nil, c, 7)
				infer(g, list(deep(true), deep(false), long(false)), 0)
				infer(g, list(ne(endless(), endless())), 0)
			}
		}
	}
}
