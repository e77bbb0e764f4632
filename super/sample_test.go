package super

import (
	"slices"

	"elenchus/api"
	"elenchus/clause"
	"elenchus/kbo"
	"elenchus/maxim"
	"elenchus/place"
	"elenchus/subst"
	"elenchus/term"
	"elenchus/unify"
)

func fun(head int, args ...api.Term) api.Term { return api.Term{Head: head, Args: args} }

func x(n int, args ...api.Term) api.Term { return api.Term{Head: -1 - n, Args: args} }

func eq(l, r api.Term) api.Lit { return api.Lit{L: l, R: r} }

func ne(l, r api.Term) api.Lit { return api.Lit{Neg: true, L: l, R: r} }

func holds(atom api.Term) api.Lit { return eq(atom, fun(0)) }

func denied(atom api.Term) api.Lit { return ne(atom, fun(0)) }

func list(c ...api.Lit) []api.Lit { return c }

// times is a clause of one literal, n times.
func times(n int, l api.Lit) []api.Lit { return slices.Repeat([]api.Lit{l}, n) }

// chain is f(f(.. (end))), of n levels above the end.
func chain(n int, end api.Term) api.Term {
	for range n {
		end = fun(3, end)
	}
	return end
}

// doubled is a full binary tree of n levels above the end, its lists shared on every level.
func doubled(n int, end api.Term) api.Term {
	for range n {
		end = fun(4, end, end)
	}
	return end
}

// broad is a flat term of n symbols with seven arguments each; its size is 7 * n + 1, if that of the leaf is 1.
func broad(n int, leaf api.Term) api.Term { return broadFrom(0, n, leaf) }

// broadFrom is the ith subterm, counted level by level.
func broadFrom(i, n int, leaf api.Term) api.Term {
	if i >= n {
		return leaf
	}
	t := fun(5)
	for k := range 7 {
		t.Args = append(t.Args, broadFrom(7*i+1+k, n, leaf))
	}
	return t
}

// endless holds itself.
func endless() api.Term {
	args := make([]api.Term, 1)
	args[0] = fun(3, args...)
	return args[0]
}

// toy: 1 and 2 are a and b, 3 to 5 are f, g and w, of one, two and seven arguments; 6 to 8 are the predicates p, q and r, of one, two and no arguments; 9 is c, heavier than the others.
func toy() []api.Sym {
	return []api.Sym{{Name: "$true", Weight: 1, Truth: true}, {Name: "a", Weight: 1}, {Name: "b", Weight: 1},
		{Name: "f", Arity: 1, Weight: 1}, {Name: "g", Arity: 2, Weight: 1}, {Name: "w", Arity: 7, Weight: 1},
		{Name: "p", Arity: 1, Weight: 1, Truth: true}, {Name: "q", Arity: 2, Weight: 1, Truth: true}, {Name: "r", Weight: 1, Truth: true},
		{Name: "c", Weight: 5}}
}

// wrongSignatures are some that are not valid.
func wrongSignatures() [][]api.Sym {
	with := func(at int, s api.Sym) []api.Sym {
		g := toy()
		g[at] = s
		return g
	}
	return [][]api.Sym{nil, {}, toy()[1:], with(0, api.Sym{Name: "$true", Weight: 1}), with(1, api.Sym{Name: "b", Weight: 1}),
		with(1, api.Sym{Weight: 1}), with(1, api.Sym{Name: "a"}), with(3, api.Sym{Name: "f", Arity: 9, Weight: 1}), append(toy(), make([]api.Sym, 300)...)}
}

type faultyTerm struct {
	term api.Term
	err  api.Errno
}

// faultyTerms are terms of every kind that layer 7's Term refuses over the toy, with its errors.
func faultyTerms() []faultyTerm {
	a := fun(1)
	return []faultyTerm{
		{fun(10), api.ErrArg}, {fun(4, a, fun(10)), api.ErrArg}, {fun(4, a), api.ErrArg}, {fun(0, a), api.ErrArg},
		{fun(3, fun(6, a)), api.ErrSort}, {fun(6, fun(0)), api.ErrSort},
		{x(256), api.ErrArg}, {fun(3, x(256)), api.ErrArg}, {fun(3, x(0, a)), api.ErrArg}, {fun(1024), api.ErrArg},
		{fun(5, a, a, a, a, a, a, a, a, a), api.ErrArg}, {chain(40, a), api.ErrDeep}, {broad(58, a), api.ErrLong},
		{doubled(300, a), api.ErrLong}, {endless(), api.ErrLong},
	}
}

type faultyClause struct {
	clause []api.Lit
	err    api.Errno
}

// faults are clauses of every kind that is not valid over the toy, with the errors of layer 10's Check.
func faults() []faultyClause {
	fine := denied(fun(6, x(0)))
	all := []faultyClause{{times(33, fine), api.ErrLong}, {make([]api.Lit, 100000), api.ErrLong}, {times(33, eq(fun(0), fun(8))), api.ErrLong}}
	literals := []faultyClause{{list(eq(fun(0), fun(8))), api.ErrSort}, {list(ne(x(0), fun(0))), api.ErrSort}, {list(ne(fun(6, x(0)), fun(1))), api.ErrSort}}
	for _, f := range faultyTerms() {
		literals = append(literals, faultyClause{list(eq(f.term, x(0))), f.err}, faultyClause{list(ne(fun(1), f.term)), f.err})
	}
	for _, l := range literals {
		all = append(all, l, faultyClause{append(list(fine), l.clause...), l.err}, faultyClause{append(l.clause, fine), l.err})
	}
	return all
}

// clauses are all of up to so many of the literals.
func clauses(upTo int, pool []api.Lit) [][]api.Lit {
	all := [][]api.Lit{nil}
	for first, n := 0, 0; n < upTo; n++ {
		end := len(all)
		for ; first < end; first++ {
			for _, l := range pool {
				all = append(all, append(slices.Clone(all[first]), l))
			}
		}
	}
	return all
}

func copied(c []api.Lit) []api.Lit {
	c = slices.Clone(c)
	for i, l := range c {
		c[i].L, c[i].R = term.Copy(l.L), term.Copy(l.R)
	}
	return c
}

// identical is narrower than layer 9's Same of each: the sides are in the same order too.
func identical(c, d []api.Lit) bool {
	return slices.EqualFunc(c, d, func(a, b api.Lit) bool { return a.Neg == b.Neg && term.Same(a.L, b.L) && term.Same(a.R, b.R) })
}

func sameBind(a, b api.Bind) bool { return a.Var == b.Var && term.Same(a.To, b.To) }

// to is a substitution: the binding of a variable, and more of them.
func to(v int, t api.Term, more ...api.Bind) []api.Bind {
	return append([]api.Bind{{Var: v, To: t}}, more...)
}

// at is a place: a side, and a position in it.
func at(p ...int) []int { return p }

func got(i, k int, place []int, by []api.Bind, c ...api.Lit) api.Got {
	return api.Got{Clause: c, Lits: [2]int{i, k}, Place: place, By: by}
}

func sameGot(a, b api.Got) bool {
	return a.Lits == b.Lits && slices.Equal(a.Place, b.Place) && slices.EqualFunc(a.By, b.By, sameBind) && identical(a.Clause, b.Clause)
}

func sameGots(a, b []api.Got) bool { return slices.EqualFunc(a, b, sameGot) }

// inference is Into or Both.
type inference func(g []api.Sym, c, d []api.Lit, how int) ([]api.Got, int, api.Errno)

// overwrite spoils all that a conclusion holds.
func overwrite(made api.Got) {
	for i := range made.Clause {
		spoil(made.Clause[i].L)
		spoil(made.Clause[i].R)
		made.Clause[i] = ne(fun(777), fun(777))
	}
	for i := range made.By {
		spoil(made.By[i].To)
		made.By[i] = api.Bind{Var: 777}
	}
	for i := range made.Place {
		made.Place[i] = 777
	}
}

func spoil(t api.Term) {
	for i := range t.Args {
		spoil(t.Args[i])
		t.Args[i] = fun(777)
	}
}

// The document's words, one by one, to hold the package against.

// trial is what P13.1 goes through: the literals i and k, the sides (0: L, 1: R), and the position.
type trial struct {
	i, l, k, s int
	p          []int
}

func sideOf(l api.Lit, side int) api.Term {
	if side == 0 {
		return l.L
	}
	return l.R
}

// trials are all, in P13.1's order, whose subterm is not a variable.
func trials(c, d []api.Lit) (all []trial) {
	for i := range c {
		for l := range 2 {
			for k := range d {
				for s := range 2 {
					for _, p := range place.All(sideOf(d[k], s)) {
						if u, _ := place.At(sideOf(d[k], s), p); !c[i].Neg && sideOf(c[i], l).Head != 0 && u.Head >= 0 {
							all = append(all, trial{i, l, k, s, p})
						}
					}
				}
			}
		}
	}
	return all
}

func plainInto(g []api.Sym, c, d []api.Lit, how int) (all []api.Got, lost int, err api.Errno) {
	selected, err := maxim.Select(g, c, how)
	if err != 0 {
		return nil, 0, err
	}
	if _, err = maxim.Select(g, d, how); err != 0 {
		return nil, 0, err
	}
	if d, err = clause.Apart(c, d); err != 0 || len(selected) > 0 {
		return nil, 0, err
	}
	for _, t := range trials(c, d) {
		made, concluded, lose := t.carryOut(g, c, d, how)
		if concluded {
			all = append(all, made)
		}
		if lose {
			lost++
		}
	}
	return all, lost, 0
}

func plainBoth(g []api.Sym, c, d []api.Lit, how int) ([]api.Got, int, api.Errno) {
	one, lost, err := plainInto(g, c, d, how)
	if err != 0 {
		return nil, 0, err
	}
	other, more, err := plainInto(g, d, c, how)
	if err != 0 {
		return nil, 0, err
	}
	return append(one, other...), lost + more, 0
}

// carryOut makes one trial: a conclusion, or none, or one that is lost.
func (t trial) carryOut(g []api.Sym, c, d []api.Lit, how int) (made api.Got, concluded, lost bool) {
	l, r, s, other := sideOf(c[t.i], t.l), sideOf(c[t.i], 1-t.l), sideOf(d[t.k], t.s), sideOf(d[t.k], 1-t.s)
	u, _ := place.At(s, t.p)
	atom := func(t api.Term) bool { return t.Head >= 0 && g[t.Head].Truth }
	if atom(l) != atom(u) {
		return made, false, false
	}
	by, ok, err := unify.Mgu(l, u)
	if err != 0 || !ok {
		return made, false, err != 0
	}
	from, wrong := clause.Apply(by, c)
	into, wrongToo := clause.Apply(by, d)
	if wrong != 0 || wrongToo != 0 || clause.Check(g, from) != 0 || clause.Check(g, into) != 0 {
		return made, false, true
	}
	maximal, _ := maxim.Maximal(g, from, t.i, true)
	eligible, _ := maxim.May(g, d, how, t.k, by)
	if !maximal || !eligible || lessOrEqual(g, by, l, r) || lessOrEqual(g, by, s, other) {
		return made, false, false
	}
	put, _ := place.Put(s, t.p, r)
	changed := api.Lit{Neg: d[t.k].Neg, L: put, R: other}
	if t.s == 1 {
		changed.L, changed.R = other, put
	}
	described := slices.Concat(c[:t.i], c[t.i+1:], d[:t.k], list(changed), d[t.k+1:])
	conclusion, ok := plainConclusion(g, described, by)
	return got(t.i, t.k, append([]int{t.s}, t.p...), by, conclusion...), ok, !ok
}

func lessOrEqual(g []api.Sym, by []api.Bind, a, b api.Term) bool {
	a, _ = subst.Apply(by, a)
	b, _ = subst.Apply(by, b)
	order, _ := kbo.Compare(g, a, b)
	return order == api.Less || order == api.Equal
}

// plainConclusion is Norm of Tidy of the clause described, with the unifier applied; false: it is lost.
func plainConclusion(g []api.Sym, described []api.Lit, by []api.Bind) ([]api.Lit, bool) {
	var applied []api.Lit
	for _, l := range described {
		instance, err := clause.Apply(by, list(l))
		if err != 0 {
			return nil, false
		}
		applied = append(applied, instance...)
	}
	norm, err := clause.Norm(clause.Tidy(applied))
	return norm, err == 0 && clause.Check(g, norm) == 0
}

// world is an interpretation of the toy's $true, a, b, f, p and r; its things are 0 to size-1.
type world struct {
	size int
	a, b int
	f    []int
	p    []int // 1 or 0
	r    int
}

// rows lists all rows of n numbers below a bound.
func rows(n, below int) [][]int {
	all := [][]int{nil}
	for range n {
		var longer [][]int
		for _, row := range all {
			for v := range below {
				longer = append(longer, append(slices.Clone(row), v))
			}
		}
		all = longer
	}
	return all
}

// worlds are all those of one and of two things.
func worlds() []world {
	var all []world
	for size := 1; size <= 2; size++ {
		for _, constants := range rows(2, size) {
			for _, f := range rows(size, size) {
				for _, truths := range rows(size+1, 2) {
					all = append(all, world{size, constants[0], constants[1], f, truths[:size], truths[size]})
				}
			}
		}
	}
	return all
}

// value is a thing, or, of an atom, 1 or 0.
func (w world) value(t api.Term, things []int) int {
	switch t.Head {
	case 0:
		return 1
	case 1:
		return w.a
	case 2:
		return w.b
	case 3:
		return w.f[w.value(t.Args[0], things)]
	case 6:
		return w.p[w.value(t.Args[0], things)]
	case 8:
		return w.r
	}
	return things[-1-t.Head]
}

// holds reports whether for all things that may stand for its variables one of the literals holds.
func (w world) holds(c []api.Lit) bool {
	c, _ = clause.Norm(c)
	for _, things := range rows(len(clause.Vars(c)), w.size) {
		if !slices.ContainsFunc(c, func(l api.Lit) bool {
			return l.Neg != (w.value(l.L, things) == w.value(l.R, things))
		}) {
			return false
		}
	}
	return true
}
