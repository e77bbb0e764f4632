package clause

import (
	"cmp"
	"math"
	"slices"
	"testing"

	"elenchus/api"
	"elenchus/lit"
	"elenchus/match"
	"elenchus/subst"
	"elenchus/term"
	"elenchus/weigh"
)

func fun(head int, args ...api.Term) api.Term { return api.Term{Head: head, Args: args} }

func x(n int, args ...api.Term) api.Term { return api.Term{Head: -1 - n, Args: args} }

func eq(l, r api.Term) api.Lit { return api.Lit{L: l, R: r} }

func ne(l, r api.Term) api.Lit { return api.Lit{Neg: true, L: l, R: r} }

// holds and denied state an atom and its negation.

func holds(atom api.Term) api.Lit { return eq(atom, fun(0)) }

func denied(atom api.Term) api.Lit { return ne(atom, fun(0)) }

func list(c ...api.Lit) []api.Lit { return c }

// times is a clause of one literal, n times.
func times(n int, l api.Lit) []api.Lit { return slices.Repeat([]api.Lit{l}, n) }

// chain is f(f(.. (end))), of n levels above the end.
func chain(n int, end api.Term) api.Term {
	for range n {
		end = fun(3, end)
	}
	return end
}

// doubled is a full binary tree of n levels above the end, its lists shared on every level.
func doubled(n int, end api.Term) api.Term {
	for range n {
		end = fun(4, end, end)
	}
	return end
}

// broad is a flat term of n symbols with seven arguments each; its size is 7 * n + 1, if that of the leaf is 1.
func broad(n int, leaf api.Term) api.Term { return broadFrom(0, n, leaf) }

// broadFrom is the ith subterm, counted level by level.
func broadFrom(i, n int, leaf api.Term) api.Term {
	if i >= n {
		return leaf
	}
	t := fun(5)
	for k := range 7 {
		t.Args = append(t.Args, broadFrom(7*i+1+k, n, leaf))
	}
	return t
}

// endless holds itself.
func endless() api.Term {
	args := make([]api.Term, 1)
	args[0] = fun(3, args...)
	return args[0]
}

// toy: 1 and 2 are a and b, 3 to 5 are f, g and w, of one, two and seven arguments; 6 to 8 are the predicates p, q and r, of one, two and no arguments; 9 is c, heavier than the others.
func toy() []api.Sym {
	return []api.Sym{{Name: "$true", Weight: 1, Truth: true}, {Name: "a", Weight: 1}, {Name: "b", Weight: 1},
		{Name: "f", Arity: 1, Weight: 1}, {Name: "g", Arity: 2, Weight: 1}, {Name: "w", Arity: 7, Weight: 1},
		{Name: "p", Arity: 1, Weight: 1, Truth: true}, {Name: "q", Arity: 2, Weight: 1, Truth: true}, {Name: "r", Weight: 1, Truth: true},
		{Name: "c", Weight: 5}}
}

// heavy is the toy with as much weight as there may be.
func heavy() []api.Sym {
	g := toy()
	for i := 1; i < len(g); i++ {
		g[i].Weight = 1000
	}
	return g
}

// wrongSignatures are some that are not valid.
func wrongSignatures() [][]api.Sym {
	with := func(at int, s api.Sym) []api.Sym {
		g := toy()
		g[at] = s
		return g
	}
	return [][]api.Sym{nil, {}, toy()[1:], with(0, api.Sym{Name: "$true", Weight: 1}), with(1, api.Sym{Name: "b", Weight: 1}),
		with(1, api.Sym{Weight: 1}), with(1, api.Sym{Name: "a"}), with(3, api.Sym{Name: "f", Arity: 9, Weight: 1}), append(toy(), make([]api.Sym, 300)...)}
}

type faultyTerm struct {
	name string
	term api.Term
	err  api.Errno
}

// unfit are valid terms that are not terms over the toy, with the errors of layer 7's Term.
func unfit() []faultyTerm {
	a := fun(1)
	return []faultyTerm{
		{"no symbol", fun(10), api.ErrArg},
		{"no symbol inside", fun(4, a, fun(10)), api.ErrArg},
		{"too few arguments", fun(4, a), api.ErrArg},
		{"an argument of $true", fun(0, a), api.ErrArg},
		{"an atom inside", fun(3, fun(6, a)), api.ErrSort},
		{"$true inside", fun(6, fun(0)), api.ErrSort},
	}
}

// invalid are terms of every kind that is not valid, with the errors of layer 1's Check.
func invalid() []faultyTerm {
	a := fun(1)
	return []faultyTerm{
		{"variable 256", x(256), api.ErrArg},
		{"variable 256 inside", fun(3, x(256)), api.ErrArg},
		{"a variable with an argument", fun(3, x(0, a)), api.ErrArg},
		{"head 1024", fun(1024), api.ErrArg},
		{"nine arguments", fun(5, a, a, a, a, a, a, a, a, a), api.ErrArg},
		{"too deep", chain(40, a), api.ErrDeep},
		{"too long", broad(58, a), api.ErrLong},
		{"shared without measure", doubled(300, a), api.ErrLong},
		{"no end", endless(), api.ErrLong},
	}
}

type faultyLit struct {
	lit api.Lit
	err api.Errno
}

// faults are literals of every kind that is not valid over the toy, with the errors of layer 9's Check.
func faults() []faultyLit {
	all := []faultyLit{{eq(fun(0), fun(8)), api.ErrSort}, {ne(x(0), fun(0)), api.ErrSort}, {eq(fun(8), fun(8)), api.ErrSort}, {ne(fun(6, x(0)), fun(1)), api.ErrSort}}
	for _, f := range append(unfit(), invalid()...) {
		all = append(all, faultyLit{eq(f.term, x(0)), f.err}, faultyLit{ne(fun(1), f.term), f.err})
	}
	return all
}

// small are literals few enough for all clauses of three of them.
func small() []api.Lit {
	a, fx := fun(1), fun(3, x(0))
	return []api.Lit{eq(a, fx), eq(fx, a), ne(a, fx), ne(fx, a), eq(x(0), x(0)), ne(x(0), x(0)), eq(x(0), x(1)), ne(x(1), x(0)),
		holds(fun(6, x(0))), denied(fun(6, x(0))), holds(fun(6, a)), holds(fun(0)), denied(fun(0)), ne(fun(4, x(1), x(0)), fun(2))}
}

// clauses are all of up to so many of the literals.
func clauses(upTo int, pool []api.Lit) [][]api.Lit {
	all := [][]api.Lit{nil}
	for first, n := 0, 0; n < upTo; n++ {
		end := len(all)
		for ; first < end; first++ {
			for _, l := range pool {
				all = append(all, append(slices.Clone(all[first]), l))
			}
		}
	}
	return all
}

// identicalLit is narrower than layer 9's Same: the sides are in the same order too.
func identicalLit(a, b api.Lit) bool {
	return a.Neg == b.Neg && term.Same(a.L, b.L) && term.Same(a.R, b.R)
}

func identical(c, d []api.Lit) bool { return slices.EqualFunc(c, d, identicalLit) }

func copied(c []api.Lit) []api.Lit {
	c = slices.Clone(c)
	for i, l := range c {
		c[i].L, c[i].R = term.Copy(l.L), term.Copy(l.R)
	}
	return c
}

// turned is what is told when both clauses are exchanged.
func turned(order int) int {
	if order == 2 {
		return 2
	}
	return -order
}

// The document's words, one by one, to hold the package against.

func plainVars(c []api.Lit) []int {
	var vars []int
	for _, l := range c {
		for _, t := range []api.Term{l.L, l.R} {
			for _, v := range term.Vars(t) {
				if !slices.Contains(vars, v) {
					vars = append(vars, v)
				}
			}
		}
	}
	return vars
}

func plainTidy(c []api.Lit) []api.Lit {
	var tidy []api.Lit
	for i, l := range c {
		repeated := false
		for k := range i {
			repeated = repeated || lit.Same(c[k], l)
		}
		if !repeated && !(l.Neg && lit.Trivial(l)) {
			tidy = append(tidy, l)
		}
	}
	return tidy
}

func plainTautology(c []api.Lit) bool {
	for _, l := range c {
		if !l.Neg && lit.Trivial(l) {
			return true
		}
		for _, k := range c {
			if lit.Opposite(l, k) {
				return true
			}
		}
	}
	return false
}

// plainRename puts other variables for those of a term.
func plainRename(t api.Term, number func(v int) int) api.Term {
	if t.Head < 0 {
		return x(number(-1 - t.Head))
	}
	renamed := fun(t.Head)
	for _, arg := range t.Args {
		renamed.Args = append(renamed.Args, plainRename(arg, number))
	}
	return renamed
}

// plainNorm numbers the variables of a clause with valid sides from the one given.
func plainNorm(c []api.Lit, from int) []api.Lit {
	vars := plainVars(c)
	number := func(v int) int { return from + slices.Index(vars, v) }
	var renamed []api.Lit
	for _, l := range c {
		renamed = append(renamed, api.Lit{Neg: l.Neg, L: plainRename(l.L, number), R: plainRename(l.R, number)})
	}
	return renamed
}

func plainCount(c []api.Lit, l api.Lit) int {
	n := 0
	for _, k := range c {
		if lit.Same(k, l) {
			n++
		}
	}
	return n
}

// plainRest is each literal that is oftener in c than in d.
func plainRest(c, d []api.Lit) []api.Lit {
	var rest []api.Lit
	for _, l := range c {
		if plainCount(c, l) > plainCount(d, l) {
			rest = append(rest, l)
		}
	}
	return rest
}

func plainMore(g []api.Sym, c, d []api.Lit) bool {
	highs, lows := plainRest(c, d), plainRest(d, c)
	for _, low := range lows {
		found := false
		for _, high := range highs {
			order, _ := lit.Compare(g, low, high)
			found = found || order == -1
		}
		if !found {
			return false
		}
	}
	return len(highs) > 0
}

func plainCompare(g []api.Sym, c, d []api.Lit) int {
	switch {
	case plainMore(g, c, d):
		return 1
	case plainMore(g, d, c):
		return -1
	case len(plainRest(c, d)) == 0 && len(plainRest(d, c)) == 0:
		return 0
	}
	return 2
}

func TestCheckP10_1(t *testing.T) {
	a, p := fun(1), fun(6, x(0))
	for _, c := range []struct {
		name   string
		clause []api.Lit
		want   api.Errno
	}{
		{"the empty clause", nil, api.OK},
		{"an empty list", list(), api.OK},
		{"one literal", list(eq(a, x(0))), api.OK},
		{"several", list(denied(p), holds(fun(8)), ne(x(0), fun(3, a)), holds(fun(0))), api.OK},
		{"a tautology", list(eq(a, a), ne(a, a), eq(a, a)), api.OK},
		{"zero literals", make([]api.Lit, 2), api.OK},
		{"32 literals", times(32, denied(p)), api.OK},
		{"32 of the longest", times(32, eq(broad(57, x(255)), broad(57, a))), api.OK},
		{"33 literals", times(33, denied(p)), api.ErrLong},
		{"33 zero literals", make([]api.Lit, 33), api.ErrLong},
		{"many", make([]api.Lit, 100000), api.ErrLong},
		{"an atom right", list(denied(p), eq(fun(0), p)), api.ErrSort},
		{"a left side ahead of a right one", list(eq(fun(3, p), fun(10))), api.ErrSort},
		{"a side ahead of both together", list(eq(p, chain(40, a))), api.ErrDeep},
	} {
		if err := Check(toy(), c.clause); err != c.want {
			t.Errorf("P10.1: %s: %d", c.name, err)
		}
	}
}

// The first literal that has a fault decides, wherever it stands, and whatever follows.
func TestFirstFaultP10_1(t *testing.T) {
	right := list(eq(x(0), fun(1)), denied(fun(6, x(0))), api.Lit{})
	for _, f := range faults() {
		for at := range 32 {
			c := slices.Repeat(right, 11)[:32]
			c[at] = f.lit
			if err := Check(toy(), c); err != f.err {
				t.Errorf("P10.1: %d at %d: %d", f.err, at, err)
			}
		}
		for _, other := range faults() {
			c := list(right[0], f.lit, right[1], other.lit)
			if err := Check(toy(), c); err != f.err {
				t.Errorf("P10.1: %d, then %d: %d", f.err, other.err, err)
			}
			if weight, err := Weight(toy(), c); weight != 0 || err != f.err {
				t.Errorf("P10.1: Weight: %d, then %d: %d, %d", f.err, other.err, weight, err)
			}
		}
		if err := Check(toy(), times(33, f.lit)); err != api.ErrLong {
			t.Errorf("P10.1: too many, by %d: %d", f.err, err)
		}
	}
}

// The signature's fault goes ahead of all others, in each function that takes one, though there be no literal.
func TestWrongSignatureP10_1P10_4(t *testing.T) {
	cs := [][]api.Lit{nil, {}, {{}}, {eq(x(0), x(1))}, make([]api.Lit, 33)}
	for _, f := range faults() {
		cs = append(cs, list(f.lit))
	}
	for i, g := range wrongSignatures() {
		for _, c := range cs {
			if err := Check(g, c); err != api.ErrArg {
				t.Errorf("P10.1: signature %d: %d", i, err)
			}
			if weight, err := Weight(g, c); weight != 0 || err != api.ErrArg {
				t.Errorf("P10.1: signature %d: %d, %d", i, weight, err)
			}
			for _, pair := range [][2][]api.Lit{{c, nil}, {nil, c}} {
				if order, err := Compare(g, pair[0], pair[1]); order != 0 || err != api.ErrArg {
					t.Errorf("P10.4: signature %d: %d, %d", i, order, err)
				}
			}
		}
	}
}

func TestWeightP10_1(t *testing.T) {
	a, p := fun(1), fun(6, x(0))
	for _, c := range []struct {
		name   string
		sig    []api.Sym
		clause []api.Lit
		want   int
	}{
		{"the empty clause", toy(), nil, 0},
		{"variables", toy(), list(eq(x(0), x(1))), 2},
		{"an atom, and $true", toy(), list(holds(p)), 3},
		{"a negative literal weighs no more", toy(), list(denied(p)), 3},
		{"the zero literal", toy(), list(api.Lit{}), 2},
		{"both sides", toy(), list(ne(fun(3, a), fun(9))), 7},
		{"a literal twice", toy(), list(eq(a, fun(9)), eq(fun(9), a)), 12},
		{"a tautology", toy(), list(eq(x(0), x(0)), ne(x(0), x(0))), 4},
		{"as heavy as may be", heavy(), times(32, eq(broad(57, a), broad(57, a))), 32 * 2 * 400 * 1000},
	} {
		if weight, err := Weight(c.sig, c.clause); weight != c.want || err != api.OK {
			t.Errorf("P10.1: %s: %d, %d", c.name, weight, err)
		}
	}
	if weight, err := Weight(toy(), make([]api.Lit, 33)); weight != 0 || err != api.ErrLong {
		t.Errorf("P10.1: 33 literals: %d, %d", weight, err)
	}
}

func TestWeightIsASumP10_1(t *testing.T) {
	g := heavy()
	g[2].Weight, g[4].Weight, g[6].Weight = 7, 31, 5
	for _, c := range clauses(2, small()) {
		want := 0
		for _, l := range c {
			left, _ := weigh.Weight(g, l.L)
			right, _ := weigh.Weight(g, l.R)
			want += left + right
		}
		if weight, err := Weight(g, c); weight != want || err != api.OK {
			t.Fatalf("P10.1: %v: %d, %d, not %d", c, weight, err, want)
		}
	}
}

func TestVarsP10_1(t *testing.T) {
	many, back := make([]api.Lit, 600), make([]int, 1200)
	for i := range many {
		many[i] = eq(x(1199-2*i), fun(3, x(1198-2*i)))
	}
	for i := range back {
		back[i] = 1199 - i
	}
	for _, c := range []struct {
		name   string
		clause []api.Lit
		want   []int
	}{
		{"the empty clause", nil, nil},
		{"no variables", list(eq(fun(1), fun(2)), holds(fun(8))), nil},
		{"left ahead of right", list(eq(fun(3, x(7)), x(2))), []int{7, 2}},
		{"literal by literal", list(ne(x(3), x(9)), eq(x(1), x(2))), []int{3, 9, 1, 2}},
		{"each once", list(eq(x(5), x(5)), ne(x(5), x(0)), eq(x(0), x(5))), []int{5, 0}},
		{"the first one counts", list(eq(fun(4, x(2), x(1)), x(0)), eq(x(0), fun(4, x(1), x(3)))), []int{2, 1, 0, 3}},
		{"atoms", list(holds(fun(7, x(1), x(0))), denied(fun(6, x(2)))), []int{1, 0, 2}},

		{"numbers that are not valid", list(eq(x(256), x(255)), ne(x(1000000), fun(3))), []int{256, 255, 1000000}},
		{"the greatest number", list(eq(api.Term{Head: math.MinInt}, x(0))), []int{math.MaxInt, 0}},
		{"a variable's arguments", list(eq(x(4, x(3)), fun(2000, x(1)))), []int{4, 3, 1}},
		{"deeper than the limit", list(eq(chain(65535, x(8)), x(6))), []int{8, 6}},
		{"longer than the limit", list(eq(doubled(12, x(8)), broad(200, x(6)))), []int{8, 6}},
		{"more literals than the limit", many, back},
	} {
		if got := Vars(c.clause); !slices.Equal(got, c.want) {
			t.Errorf("P10.1: %s: %v, not %v", c.name, got, c.want)
		}
	}
	for _, c := range clauses(3, small()) {
		if got, want := Vars(c), plainVars(c); !slices.Equal(got, want) {
			t.Fatalf("P10.1: %v: %v, not %v", c, got, want)
		}
	}
}

func TestApplyP10_2(t *testing.T) {
	a, fy := fun(1), fun(3, x(1))
	s := []api.Bind{{Var: 0, To: fy}, {Var: 1, To: a}}
	for _, c := range []struct {
		name         string
		by           []api.Bind
		clause, want []api.Lit
	}{
		{"the empty clause", s, nil, nil},
		{"at once, in order", s, list(eq(x(0), x(1)), denied(fun(6, x(0))), ne(x(2), fun(4, x(1), x(0)))), list(eq(fy, a), denied(fun(6, fy)), ne(x(2), fun(4, a, fy)))},
		{"what becomes the same stays", s, list(eq(x(1), a), eq(a, a), ne(x(1), x(1)), eq(a, x(1))), list(eq(a, a), eq(a, a), ne(a, a), eq(a, a))},
		{"nothing bound", nil, list(eq(x(9), x(3)), holds(fun(0))), list(eq(x(9), x(3)), holds(fun(0)))},
		{"no signature", s, list(eq(fun(8), fun(1000, x(1)))), list(eq(fun(8), fun(1000, a)))},
		{"32 literals", s, times(32, ne(x(0), x(1))), times(32, ne(fy, a))},
		{"no literal, no error", []api.Bind{{Var: -1, To: endless()}}, list(), nil},
	} {
		if got, err := Apply(c.by, c.clause); !identical(got, c.want) || err != api.OK {
			t.Errorf("P10.2: %s: %v, %d", c.name, got, err)
		}
	}
}

func TestApplyToEachLiteralP10_2(t *testing.T) {
	met := map[api.Errno]int{}
	pool := append(small(), eq(fun(4, x(0), x(0)), x(1)), ne(x(1), chain(20, x(1))), eq(x(256), x(0)), ne(x(0), doubled(300, x(0))))
	for _, s := range [][]api.Bind{nil, {{Var: 0, To: x(1)}, {Var: 1, To: x(0)}}, {{Var: 1, To: fun(4, x(0), x(255))}}, {{Var: 0, To: broad(56, x(3))}, {Var: 1, To: chain(30, x(1))}}, {{Var: 3, To: x(3)}}} {
		for _, c := range clauses(2, pool) {
			var want []api.Lit
			wantErr := api.OK
			for _, l := range c {
				applied, err := lit.Apply(s, l)
				want, wantErr = append(want, applied), cmp.Or(wantErr, err)
			}
			if wantErr != api.OK {
				want = nil
			}
			met[wantErr]++
			if got, err := Apply(s, c); !identical(got, want) || err != wantErr {
				t.Errorf("P10.2: %v by %v: %v, %d, not %v, %d", c, s, got, err, want, wantErr)
			}
		}
	}
	if met[api.OK] < 500 || met[api.ErrArg] < 100 || met[api.ErrLong] < 20 || met[api.ErrDeep] < 20 {
		t.Errorf("P10.2: too few kinds: %v", met)
	}
}

func TestApplyWrongP10_2(t *testing.T) {
	a := fun(1)
	grow := []api.Bind{{Var: 0, To: broad(56, a)}, {Var: 1, To: chain(30, a)}}
	long, deep, wrong, right := eq(a, fun(4, x(0), x(0))), ne(chain(20, x(1)), a), eq(x(256), a), eq(a, x(2))
	for i, c := range []struct {
		by     []api.Bind
		clause []api.Lit
		want   api.Errno
	}{
		{grow, list(right, long, deep, wrong), api.ErrLong},
		{grow, list(right, deep, long, wrong), api.ErrDeep},
		{grow, list(wrong, deep, long), api.ErrArg},
		{grow, append(times(31, right), deep), api.ErrDeep},
		{[]api.Bind{{Var: 256, To: a}}, list(right), api.ErrArg},
		{[]api.Bind{{Var: 4, To: a}, {Var: 3, To: a}}, list(long, deep), api.ErrArg},
		{nil, list(right, eq(a, endless())), api.ErrArg},
		{grow, times(33, right), api.ErrLong},
		{grow, times(33, deep), api.ErrLong},
		{grow, times(33, wrong), api.ErrLong},
		{[]api.Bind{{Var: 256, To: a}}, make([]api.Lit, 33), api.ErrLong},
	} {
		if got, err := Apply(c.by, c.clause); len(got) != 0 || err != c.want {
			t.Errorf("P10.2: wrong one %d: %v, %d, not %d", i, got, err, c.want)
		}
	}
}

func TestTidyP10_2(t *testing.T) {
	a, b, fx, p := fun(1), fun(2), fun(3, x(0)), fun(6, x(0))
	for _, c := range []struct {
		name         string
		clause, want []api.Lit
	}{
		{"the empty clause", nil, nil},
		{"nothing to remove", list(eq(b, a), ne(b, a), holds(p)), list(eq(b, a), ne(b, a), holds(p))},
		{"a term is not itself", list(ne(fx, fx)), nil},
		{"a term is itself", list(eq(fx, fx)), list(eq(fx, fx))},
		{"$true denied", list(denied(fun(0)), holds(p)), list(holds(p))},
		{"$true", list(holds(fun(0))), list(holds(fun(0)))},
		{"two that are not themselves", list(ne(a, a), holds(p), ne(x(1), x(1))), list(holds(p))},
		{"one twice", list(holds(p), eq(a, b), holds(p)), list(holds(p), eq(a, b))},
		{"the first one stays as it is", list(eq(a, fx), eq(fx, a), eq(a, fx)), list(eq(a, fx))},
		{"the first one stays as it is, negative", list(ne(fx, a), eq(a, fx), ne(a, fx)), list(ne(fx, a), eq(a, fx))},
		{"several, each once, in order", list(ne(b, a), eq(a, b), denied(p), eq(b, a), ne(a, b), denied(p), holds(p)), list(ne(b, a), eq(a, b), denied(p), holds(p))},
		{"32 times", times(32, holds(p)), list(holds(p))},
		{"variants are not the same", list(eq(x(0), a), eq(x(1), a)), list(eq(x(0), a), eq(x(1), a))},

		{"more literals than the limit", append(append(times(40, eq(a, b)), times(40, ne(b, b))...), eq(b, b), eq(b, a)), list(eq(a, b), eq(b, b))},
		{"not valid", list(ne(x(300, a), x(300, a)), eq(fun(2000), p), eq(p, fun(2000)), eq(p, fun(2000, a))), list(eq(fun(2000), p), eq(p, fun(2000, a)))},
		{"longer than the limit", list(eq(doubled(12, a), b), eq(b, doubled(12, a)), ne(broad(200, b), broad(200, b))), list(eq(doubled(12, a), b))},
		{"deeper than the limit", list(eq(chain(65535, a), b), eq(b, chain(65535, a)), eq(b, chain(65535, b))), list(eq(chain(65535, a), b), eq(b, chain(65535, b)))},
	} {
		if got := Tidy(c.clause); !identical(got, c.want) {
			t.Errorf("P10.2: %s: %v", c.name, got)
		}
	}
	for _, c := range clauses(3, small()) {
		if got, want := Tidy(c), plainTidy(c); !identical(got, want) {
			t.Fatalf("P10.2: %v: %v, not %v", c, got, want)
		}
	}
}

// A term without end is no harm where nothing like it is beside it.
func TestTidyOfAnyTermP10_2(t *testing.T) {
	for _, side := range []api.Term{endless(), doubled(300, fun(1))} {
		got := Tidy(list(eq(side, fun(2)), ne(fun(2), side), holds(fun(8)), holds(fun(8))))
		if len(got) != 3 || got[0].L.Head != side.Head || len(got[1].R.Args) != len(side.Args) || !identicalLit(got[2], holds(fun(8))) {
			t.Errorf("P10.2: %d literals", len(got))
		}
	}
}

func TestTautologyP10_2(t *testing.T) {
	a, b, fx, p := fun(1), fun(2), fun(3, x(0)), fun(6, x(0))
	for _, c := range []struct {
		name   string
		clause []api.Lit
		want   bool
	}{
		{"the empty clause", nil, false},
		{"a term is itself", list(eq(fx, fx)), true},
		{"a term is not itself", list(ne(fx, fx)), false},
		{"a term is itself, behind others", list(holds(p), ne(a, b), eq(x(3), x(3))), true},
		{"$true", list(holds(fun(0))), true},
		{"$true denied", list(denied(fun(0))), false},
		{"opposite", list(eq(a, b), ne(a, b)), true},
		{"opposite, negative first, with one between", list(ne(a, b), holds(p), eq(a, b)), true},
		{"opposite, exchanged", list(holds(p), eq(a, fx), ne(fx, a)), true},
		{"an atom and its negation", list(denied(p), holds(p)), true},
		{"an atom, and another one denied", list(denied(p), holds(fun(6, x(1)))), false},
		{"the same twice", list(eq(a, b), eq(b, a)), false},
		{"both negative", list(ne(a, b), ne(b, a)), false},
		{"the first and the last of 32", append(append(list(denied(p)), times(30, eq(a, b))...), holds(p)), true},
		{"by equality alone", list(ne(a, b), ne(b, x(0)), eq(a, x(0))), false},

		{"more literals than the limit", append(times(60, eq(a, b)), ne(b, a)), true},
		{"more literals than the limit, none opposite", times(60, eq(a, b)), false},
		{"not valid", list(eq(x(300), p), ne(p, x(300))), true},
		{"not valid, not opposite", list(eq(x(300), p), ne(p, x(301))), false},
		{"not valid, a variable's arguments", list(eq(x(0, a), x(0, a))), true},
		{"deeper than the limit", list(eq(chain(65535, a), b), ne(b, chain(65535, a))), true},
		{"deeper than the limit, not opposite", list(eq(chain(65535, a), b), ne(b, chain(65535, b))), false},
	} {
		if got := Tautology(c.clause); got != c.want {
			t.Errorf("P10.2: %s: %v", c.name, got)
		}
	}
	met := map[bool]int{}
	for _, c := range clauses(3, small()) {
		want := plainTautology(c)
		met[want]++
		if got := Tautology(c); got != want {
			t.Fatalf("P10.2: %v: %v", c, got)
		}
	}
	if met[true] < 500 || met[false] < 500 {
		t.Errorf("P10.2: too few kinds: %v", met)
	}
}

func TestNormP10_3(t *testing.T) {
	a := fun(1)
	var backwards, forwards []api.Lit
	for i := range 128 {
		backwards = append(backwards, eq(x(255-2*i), x(254-2*i)))
		forwards = append(forwards, eq(x(2*i), x(2*i+1)))
	}
	for _, c := range []struct {
		name         string
		clause, want []api.Lit
	}{
		{"the empty clause", nil, nil},
		{"no variables", list(eq(a, fun(2)), denied(fun(8))), list(eq(a, fun(2)), denied(fun(8)))},
		{"left ahead of right", list(ne(x(7), fun(3, x(5)))), list(ne(x(0), fun(3, x(1))))},
		{"literal by literal", list(denied(fun(6, x(9))), eq(fun(4, x(3), x(9)), x(200))), list(denied(fun(6, x(0))), eq(fun(4, x(1), x(0)), x(2)))},
		{"exchanged", list(eq(x(1), x(0)), eq(x(0), x(1))), list(eq(x(0), x(1)), eq(x(1), x(0)))},
		{"neither oriented nor tidied", list(ne(x(4), x(4)), eq(a, fun(3, x(4))), ne(x(4), x(4))), list(ne(x(0), x(0)), eq(a, fun(3, x(0))), ne(x(0), x(0)))},
		{"all variables", backwards, forwards},
		{"the longest and the deepest", list(eq(broad(57, x(255)), chain(39, x(3)))), list(eq(broad(57, x(0)), chain(39, x(1))))},
		{"more literals than the limit", times(40, holds(fun(6, x(2)))), times(40, holds(fun(6, x(0))))},
		{"no signature", list(eq(fun(1023, x(8)), fun(3, fun(6, x(1))))), list(eq(fun(1023, x(0)), fun(3, fun(6, x(1)))))},
	} {
		if got, err := Norm(c.clause); !identical(got, c.want) || err != api.OK {
			t.Errorf("P10.3: %s: %v, %d", c.name, got, err)
		}
	}
	for _, c := range clauses(3, small()) {
		if got, err := Norm(c); !identical(got, plainNorm(c, 0)) || err != api.OK {
			t.Fatalf("P10.3: %v: %v, %d", c, got, err)
		}
	}
}

func TestInvalidSidesP10_3(t *testing.T) {
	right := list(eq(x(0), fun(1)), denied(fun(6, x(0))))
	for _, f := range invalid() {
		for _, l := range []api.Lit{eq(f.term, x(0)), ne(x(0), f.term)} {
			for _, c := range [][]api.Lit{{l}, {l, right[0]}, {right[0], right[1], l}, append(times(40, right[0]), l)} {
				if got, err := Norm(c); len(got) != 0 || err != api.ErrArg {
					t.Errorf("P10.3: %s: %v, %d", f.name, got, err)
				}
				for _, other := range [][]api.Lit{nil, right, c} {
					if got, err := Apart(c, other); len(got) != 0 || err != api.ErrArg {
						t.Errorf("P10.3: %s first: %v, %d", f.name, got, err)
					}
					if got, err := Apart(other, c); len(got) != 0 || err != api.ErrArg {
						t.Errorf("P10.3: %s second: %v, %d", f.name, got, err)
					}
				}
			}
		}
	}
	// Layer 1 knows no signature.
	for _, f := range unfit() {
		c := list(eq(f.term, fun(8)))
		if got, err := Norm(c); !identical(got, c) || err != api.OK {
			t.Errorf("P10.3: %s: %v, %d", f.name, got, err)
		}
		if got, err := Apart(c, c); !identical(got, c) || err != api.OK {
			t.Errorf("P10.3: %s: %v, %d", f.name, got, err)
		}
	}
}

func TestApartP10_3(t *testing.T) {
	a := fun(1)
	d := list(eq(x(9), fun(4, x(4), x(9))), denied(fun(6, x(4))))
	for _, c := range []struct {
		name    string
		c, d    []api.Lit
		want    []api.Lit
		wantErr api.Errno
	}{
		{"both empty", nil, nil, nil, api.OK},
		{"the first one empty", nil, d, list(eq(x(0), fun(4, x(1), x(0))), denied(fun(6, x(1)))), api.OK},
		{"the second one empty", d, nil, nil, api.OK},
		{"no variables in the first one", list(eq(a, a)), d, list(eq(x(0), fun(4, x(1), x(0))), denied(fun(6, x(1)))), api.OK},
		{"no variables in the second one", d, list(ne(a, fun(2))), list(ne(a, fun(2))), api.OK},
		{"variable 0", list(holds(fun(6, x(0)))), d, list(eq(x(1), fun(4, x(2), x(1))), denied(fun(6, x(2)))), api.OK},
		{"the greatest one is not the last one", list(eq(x(3), x(1)), ne(x(7), x(2)), holds(fun(6, x(0)))), d, list(eq(x(8), fun(4, x(9), x(8))), denied(fun(6, x(9)))), api.OK},
		{"itself", d, d, list(eq(x(10), fun(4, x(11), x(10))), denied(fun(6, x(11)))), api.OK},
		{"one variable, the last one", list(eq(x(254), a)), list(eq(a, x(3))), list(eq(a, x(255))), api.OK},
		{"two variables, the last ones", list(eq(x(253), a)), d, list(eq(x(254), fun(4, x(255), x(254))), denied(fun(6, x(255)))), api.OK},
		{"two variables, and room for one", list(eq(x(254), a)), d, nil, api.ErrArg},
		{"no room", list(eq(x(255), a)), list(holds(fun(6, x(0)))), nil, api.ErrArg},
		{"no room, the variable in the last side", list(eq(x(255), a)), list(eq(a, a), ne(a, fun(3, x(0)))), nil, api.ErrArg},
		{"no room, none needed", list(eq(x(255), x(0))), list(eq(a, fun(2)), denied(fun(8))), list(eq(a, fun(2)), denied(fun(8))), api.OK},
		{"no room, no literal", list(eq(x(255), x(0))), nil, nil, api.OK},
		{"more literals than the limit", times(40, eq(x(1), x(2))), times(40, eq(x(1), x(2))), times(40, eq(x(3), x(4))), api.OK},
	} {
		if got, err := Apart(c.c, c.d); !identical(got, c.want) || err != c.wantErr {
			t.Errorf("P10.3: %s: %v, %d", c.name, got, err)
		}
	}
}

func TestApartOfAllPairsP10_3(t *testing.T) {
	all := clauses(2, small())
	for i, c := range all {
		for _, d := range all[i%5:] {
			from := 0
			for _, v := range plainVars(c) {
				from = max(from, v+1)
			}
			if got, err := Apart(c, d); !identical(got, plainNorm(d, from)) || err != api.OK {
				t.Fatalf("P10.3: %v, %v: %v, %d", c, d, got, err)
			}
		}
	}
}

// By how much d is shifted hangs on c alone, up to the last variable that there is.
func TestApartAtTheEdgeP10_3(t *testing.T) {
	for last := range 256 {
		c := list(eq(fun(1), fun(3, x(last))))
		for count := range 4 {
			var d []api.Lit
			for v := range count {
				d = append(d, holds(fun(6, x(100-v))))
			}
			got, err := Apart(c, d)
			if last+count <= 255 || count == 0 {
				if !identical(got, plainNorm(d, last+1)) || err != api.OK {
					t.Fatalf("P10.3: variable %d, then %d more: %v, %d", last, count, got, err)
				}
			} else if len(got) != 0 || err != api.ErrArg {
				t.Fatalf("P10.3: variable %d, then %d more: %v, %d", last, count, got, err)
			}
		}
	}
}

func TestCompareP10_4(t *testing.T) {
	a, b, c := fun(1), fun(2), fun(9)
	pa, pb, fx := holds(fun(6, a)), holds(fun(6, b)), fun(3, x(0))
	for _, row := range []struct {
		name string
		c, d []api.Lit
		want int
	}{
		{"both empty", nil, list(), 0},
		{"one literal more than none", list(eq(x(0), x(1))), nil, 1},
		{"a tautology is no less", list(holds(fun(0))), nil, 1},
		{"itself", list(pa, eq(a, b)), list(pa, eq(a, b)), 0},
		{"in another order, and exchanged", list(pa, eq(a, b), ne(a, c)), list(ne(c, a), pa, eq(b, a)), 0},
		{"another literal", list(pa, eq(a, b)), list(pa), 1},
		{"once more", list(pa, pa), list(pa), 1},
		{"once more, exchanged", list(eq(a, b), eq(b, a)), list(eq(b, a)), 1},
		{"each as often", list(pa, pa, pb), list(pb, pa, pa), 0},
		{"not each as often", list(pb, pb, pa), list(pa, pa, pb), 1},
		{"a greater literal", list(pb), list(pa), 1},
		{"a greater literal, and many others", list(pb), times(32, pa), 1},
		{"what is common does not count", list(pb, pa, pa), list(pb, eq(a, a)), 1},
		{"what is common is no greater one", list(eq(x(0), a), pb), list(pb, pa), 2},
		{"what is common counts as often", list(pb, pb), list(pb, pa), 1},
		{"negative", list(denied(fun(6, a))), list(pa), 1},
		{"negative, of a lesser atom", list(denied(fun(6, a))), list(pb), -1},
		{"a side of each", list(eq(c, a)), list(eq(b, b), ne(a, a), pb), 1},
		{"two literals, each greater than one", list(eq(fx, fx), eq(fun(3, x(1)), fun(3, x(1)))), list(eq(x(0), x(0)), eq(x(1), x(1))), 1},
		{"two literals, one of them of no use", list(eq(fx, fx), eq(a, a)), list(eq(x(0), x(0)), eq(x(1), x(1))), 2},
		{"other variables", list(eq(x(0), a)), list(eq(x(1), a)), 2},
		{"a variable and a constant", list(eq(x(0), x(0))), list(eq(a, a)), 2},
		{"one of each is greater", list(eq(fx, fx), eq(x(1), x(1))), list(eq(x(0), x(0)), eq(fun(3, x(1)), fun(3, x(1)))), 2},
		{"a variable more", list(pa, eq(x(0), x(0))), list(pa), 1},
		{"32 literals each", append(times(31, pa), pb), times(32, pa), 1},
		{"32 literals each, the same", append(times(31, pa), pb), append(list(pb), times(31, pa)...), 0},
		{"the longest", list(ne(broad(57, x(0)), broad(57, b))), times(32, eq(broad(57, b), broad(57, x(0)))), 1},
	} {
		if got, err := Compare(toy(), row.c, row.d); got != row.want || err != api.OK {
			t.Errorf("P10.4: %s: %d, %d, not %d", row.name, got, err, row.want)
		}
		if got, err := Compare(toy(), row.d, row.c); got != turned(row.want) || err != api.OK {
			t.Errorf("P10.4: %s, exchanged: %d, %d, not %d", row.name, got, err, turned(row.want))
		}
	}
}

// Which clause is the greater one hangs on the signature.
func TestCompareByWeightsP10_4(t *testing.T) {
	g := toy()
	g[1].Weight = 3
	c, d := list(holds(fun(6, fun(1)))), list(holds(fun(6, fun(2))), holds(fun(8)))
	if order, err := Compare(toy(), c, d); order != api.Less || err != api.OK {
		t.Errorf("P10.4: %d, %d", order, err)
	}
	if order, err := Compare(g, c, d); order != api.More || err != api.OK {
		t.Errorf("P10.4: by weight: %d, %d", order, err)
	}
}

// few are literals few enough for all pairs of clauses of two of them.
func few() []api.Lit {
	a, fx := fun(1), fun(3, x(0))
	return []api.Lit{eq(a, fx), eq(fx, a), ne(fx, a), eq(x(0), x(1)), ne(x(0), x(0)), holds(fun(6, x(0))), denied(fun(6, x(0))), holds(fun(0)), eq(a, a), eq(fun(9), fun(2))}
}

func TestCompareOfAllPairsP10_4(t *testing.T) {
	g := toy()
	met := map[int]int{}
	all := append(clauses(2, few()), clauses(3, few()[:4])...)
	for _, c := range all {
		for _, d := range all {
			want := plainCompare(g, c, d)
			met[want]++
			if got, err := Compare(g, c, d); got != want || err != api.OK {
				t.Fatalf("P10.4: %v, %v: %d, %d, not %d", c, d, got, err, want)
			}
		}
	}
	for order := -1; order <= 2; order++ {
		if met[order] < len(all) {
			t.Errorf("P10.4: too few kinds: %v", met)
		}
	}
}

func TestCompareWrongP10_4(t *testing.T) {
	type wrong struct {
		clause []api.Lit
		err    api.Errno
	}
	all := []wrong{{make([]api.Lit, 33), api.ErrLong}}
	for _, f := range faults() {
		all = append(all, wrong{list(f.lit), f.err}, wrong{list(holds(fun(8)), f.lit), f.err}, wrong{times(33, f.lit), api.ErrLong})
	}
	for _, w := range all {
		for _, right := range [][]api.Lit{nil, {eq(x(0), fun(1)), {}}} {
			if order, err := Compare(toy(), w.clause, right); order != 0 || err != w.err {
				t.Errorf("P10.4: wrong first, by %d: %d, %d", w.err, order, err)
			}
			if order, err := Compare(toy(), right, w.clause); order != 0 || err != w.err {
				t.Errorf("P10.4: wrong second, by %d: %d, %d", w.err, order, err)
			}
		}
		// All faults of the first clause go ahead of those of the second one.
		for _, second := range all {
			if order, err := Compare(toy(), w.clause, second.clause); order != 0 || err != w.err {
				t.Errorf("P10.4: wrong by %d, and by %d: %d, %d", w.err, second.err, order, err)
			}
		}
	}
}

func TestCompareIsTransitiveP10_5(t *testing.T) {
	g := toy()
	all := append(clauses(2, few()[2:9]), clauses(3, few()[2:4])...)
	orders := make([][]int, len(all))
	for i, c := range all {
		for _, d := range all {
			order, _ := Compare(g, c, d)
			orders[i] = append(orders[i], order)
		}
	}
	for i := range all {
		for k := range all {
			for m := range all {
				if orders[i][k] == api.More && orders[k][m] == api.More && orders[i][m] != api.More {
					t.Fatalf("P10.5: %v, %v, %v", all[i], all[k], all[m])
				}
				if orders[i][k] == api.Equal && orders[k][m] != orders[i][m] {
					t.Fatalf("P10.5: %v, the same as %v, and %v", all[i], all[k], all[m])
				}
			}
		}
	}
}

// A clause is greater than a part of it, and than one in which a lesser literal stands for one of its own.
func TestCompareOfPartsP10_5(t *testing.T) {
	g := toy()
	for _, c := range clauses(3, few()) {
		for i := range c {
			part := slices.Delete(slices.Clone(c), i, i+1)
			if order, err := Compare(g, c, part); order != api.More || err != api.OK {
				t.Fatalf("P10.5: %v, %v: %d, %d", c, part, order, err)
			}
			for _, l := range few()[:6] {
				want, _ := lit.Compare(g, c[i], l)
				if order, err := Compare(g, c, append(part, l)); order != want || err != api.OK {
					t.Fatalf("P10.5: %v, with %v for %v: %d, %d", c, l, c[i], order, err)
				}
			}
		}
	}
}

// individuals puts individuals for variables, in several ways.
func individuals() [][]api.Bind {
	return [][]api.Bind{nil, {{Var: 0, To: fun(1)}}, {{Var: 0, To: x(1)}}, {{Var: 1, To: x(0)}}, {{Var: 0, To: x(1)}, {Var: 1, To: x(0)}},
		{{Var: 0, To: fun(3, x(0))}}, {{Var: 0, To: fun(3, x(1))}, {Var: 1, To: fun(2)}}, {{Var: 0, To: fun(3, fun(1))}, {Var: 1, To: fun(3, fun(1))}}}
}

func TestCompareOfInstancesP10_5(t *testing.T) {
	g := toy()
	all := clauses(2, few())
	for _, c := range all {
		for _, d := range all {
			if order, _ := Compare(g, c, d); order != api.More {
				continue
			}
			for _, s := range individuals() {
				above, _ := Apply(s, c)
				below, _ := Apply(s, d)
				if order, err := Compare(g, above, below); order != api.More || err != api.OK {
					t.Fatalf("P10.5: %v, %v by %v: %d, %d", c, d, s, order, err)
				}
			}
		}
	}
}

// Of two clauses without variables that are not the same one is greater.
func TestCompareIsTotalP10_5(t *testing.T) {
	a, b, fa := fun(1), fun(2), fun(3, fun(1))
	all := clauses(2, list(eq(a, b), ne(b, a), eq(b, a), eq(fa, fa), ne(fa, b), holds(fun(6, a)), denied(fun(6, b)), holds(fun(8)), holds(fun(0)), denied(fun(0))))
	for _, c := range all {
		for _, d := range all {
			order, err := Compare(toy(), c, d)
			same := len(plainRest(c, d)) == 0 && len(plainRest(d, c)) == 0
			if order == api.None || (order == api.Equal) != same || err != api.OK {
				t.Fatalf("P10.5: %v, %v: %d, %d", c, d, order, err)
			}
		}
	}
}

// world is an interpretation of the toy's $true, a, b, f, p and r; its things are 0 to size-1.
type world struct {
	size int
	a, b int
	f    []int
	p    []int // 1 or 0
	r    int
}

// rows lists all rows of n numbers below a bound.
func rows(n, below int) [][]int {
	all := [][]int{nil}
	for range n {
		var longer [][]int
		for _, row := range all {
			for v := range below {
				longer = append(longer, append(slices.Clone(row), v))
			}
		}
		all = longer
	}
	return all
}

// worlds are all those of one and of two things.
func worlds() []world {
	var all []world
	for size := 1; size <= 2; size++ {
		for _, constants := range rows(2, size) {
			for _, f := range rows(size, size) {
				for _, truths := range rows(size+1, 2) {
					all = append(all, world{size, constants[0], constants[1], f, truths[:size], truths[size]})
				}
			}
		}
	}
	return all
}

// value is a thing, or, of an atom, 1 or 0.
func (w world) value(t api.Term, things []int) int {
	switch t.Head {
	case 0:
		return 1
	case 1:
		return w.a
	case 2:
		return w.b
	case 3:
		return w.f[w.value(t.Args[0], things)]
	case 6:
		return w.p[w.value(t.Args[0], things)]
	case 8:
		return w.r
	}
	return things[-1-t.Head]
}

// holds reports whether for all things that may stand for its variables, 0 to 2, one of the literals holds.
func (w world) holds(c []api.Lit) bool {
	for _, things := range rows(3, w.size) {
		if !slices.ContainsFunc(c, func(l api.Lit) bool {
			return l.Neg != (w.value(l.L, things) == w.value(l.R, things))
		}) {
			return false
		}
	}
	return true
}

// interpreted are clauses of the symbols that a world knows.
func interpreted() [][]api.Lit {
	a, b, fx, fy := fun(1), fun(2), fun(3, x(0)), fun(3, x(1))
	return clauses(3, list(eq(a, fx), eq(fx, a), ne(fx, a), eq(x(2), x(0)), ne(x(0), x(0)), eq(x(1), x(1)), eq(fx, fy), ne(a, b),
		holds(fun(6, x(2))), denied(fun(6, fy)), holds(fun(8)), denied(fun(0))))
}

func TestMeaningP10_5(t *testing.T) {
	met := map[bool]int{}
	all := worlds()
	for _, c := range interpreted() {
		tidy := Tidy(c)
		norm, err := Norm(c)
		if err != api.OK {
			t.Fatalf("P10.5: %v: %d", c, err)
		}
		tautology := Tautology(c)
		for _, w := range all {
			want := w.holds(c)
			met[want]++
			if w.holds(tidy) != want || w.holds(norm) != want {
				t.Fatalf("P10.5: %v in %v: %v; Tidy %v, Norm %v", c, w, want, tidy, norm)
			}
			if tautology && !want {
				t.Fatalf("P10.5: a tautology, %v in %v", c, w)
			}
		}
	}
	if met[true] < 1000 || met[false] < 1000 {
		t.Errorf("P10.5: too few kinds: %v", met)
	}
}

func TestInstancesHoldP10_5(t *testing.T) {
	all := worlds()
	for _, c := range interpreted()[:500] {
		for _, s := range individuals() {
			instance, err := Apply(s, c)
			if err != api.OK {
				t.Fatalf("P10.5: %v by %v: %d", c, s, err)
			}
			for _, w := range all {
				if w.holds(c) && !w.holds(instance) {
					t.Fatalf("P10.5: %v by %v in %v", c, s, w)
				}
			}
		}
	}
}

// What is tidy, normal or apart stays so; and only variants have the same Norm.
func TestOnceMoreP10_5(t *testing.T) {
	for _, c := range clauses(3, small()) {
		tidy := Tidy(c)
		if again := Tidy(tidy); !identical(again, tidy) {
			t.Fatalf("P10.5: %v: tidy %v, and again %v", c, tidy, again)
		}
		norm, _ := Norm(c)
		if again, err := Norm(norm); !identical(again, norm) || err != api.OK {
			t.Fatalf("P10.5: %v: Norm %v, and again %v", c, norm, again)
		}
		renamed, err := Apply([]api.Bind{{Var: 0, To: x(200)}, {Var: 1, To: x(100)}}, c)
		if again, _ := Norm(renamed); !identical(again, norm) || err != api.OK {
			t.Fatalf("P10.5: %v: Norm %v, and renamed %v", c, norm, again)
		}
		moved, err := Apart(c, c)
		if again, _ := Norm(moved); !identical(again, norm) || err != api.OK {
			t.Fatalf("P10.5: %v: Norm %v, and moved %v", c, norm, again)
		}
		if slices.ContainsFunc(Vars(moved), func(v int) bool { return slices.Contains(Vars(c), v) }) {
			t.Fatalf("P10.5: %v: %v is not apart", c, moved)
		}
	}
}

// Norm and Apart are those of the layers below, for the list of sides.
func TestNormByLayersBelowP10_3(t *testing.T) {
	for _, c := range clauses(2, small()) {
		want, _ := match.Norm(sides(c))
		norm, _ := Norm(c)
		if !slices.EqualFunc(sides(norm), want, term.Same) {
			t.Fatalf("P10.3: %v: %v, not %v", c, norm, want)
		}
		moved, _ := Apart(list(eq(x(41), x(6))), c)
		for i, u := range sides(moved) {
			if shifted, _ := subst.Shift(want[i], 42); !term.Same(u, shifted) {
				t.Fatalf("P10.3: %v: %v", c, moved)
			}
		}
	}
}

// overwrite writes to every literal, and to every list of Args, from the innermost ones outwards.
func overwrite(c []api.Lit) {
	for i, l := range c {
		overwriteArgs(l.L.Args)
		overwriteArgs(l.R.Args)
		c[i] = ne(fun(777), fun(778))
	}
}

func overwriteArgs(args []api.Term) {
	for i := range args {
		overwriteArgs(args[i].Args)
		args[i] = fun(777)
	}
}

// answers are those of all functions that answer clauses, for clauses without errors.
func answers(s []api.Bind, c, d []api.Lit) [][]api.Lit {
	applied, _ := Apply(s, d)
	norm, _ := Norm(d)
	apart, _ := Apart(c, d)
	return [][]api.Lit{applied, norm, apart, Tidy(d)}
}

// Nothing that is handed in is written to, and what is answered is in memory of its own.
func TestOwnMemoryR2(t *testing.T) {
	to := []api.Bind{{Var: 0, To: fun(3, fun(1))}, {Var: 1, To: fun(4, fun(3, x(0)), fun(2))}}
	s := []api.Bind{{Var: 0, To: term.Copy(to[0].To)}, {Var: 1, To: term.Copy(to[1].To)}}
	g := toy()
	deep := list(eq(fun(3, x(9)), fun(3, fun(3, fun(2)))), ne(fun(4, x(1), fun(3, x(9))), x(1)), eq(fun(3, fun(3, fun(2))), fun(3, x(9))), eq(x(0), fun(4, x(300), fun(1))))
	for _, c := range append(clauses(2, small()), deep, deep[:3], deep[:1]) {
		own, other := copied(c), copied(c)
		Check(g, own)
		Weight(g, own)
		Compare(g, own, other)
		Tautology(own)
		clear(Vars(own))
		for _, answer := range answers(s, own, other) {
			overwrite(answer)
			if !identical(own, c) || !identical(other, c) || !slices.Equal(g, toy()) {
				t.Fatalf("R2: %v was changed to %v or %v, or the signature to %v", c, own, other, g)
			}
			if !term.Same(s[0].To, to[0].To) || !term.Same(s[1].To, to[1].To) {
				t.Fatalf("R2: %v: the substitution was changed to %v", c, s)
			}
		}
	}
}

// All sides are one in memory; those of the answers are not.
func TestSidesApartR2(t *testing.T) {
	u := fun(4, fun(3, x(0)), x(1))
	c := list(eq(u, u), ne(u.Args[0], u), eq(u, u.Args[0]))
	want := copied(c)
	for i, answer := range answers(nil, c, c) {
		rest := copied(answer[1:])
		right := term.Copy(answer[0].R)
		overwriteArgs(answer[0].L.Args)
		if !term.Same(answer[0].R, right) || !identical(answer[1:], rest) || !identical(c, want) {
			t.Errorf("R2: answer %d: writing to the left side of the first literal", i)
		}
	}
}

// An answer is not written to by the calls behind it, and none hangs on those before it.
func TestAgainR3(t *testing.T) {
	c := list(eq(x(5), fun(3, x(2))), ne(x(2), x(2)), eq(fun(3, x(2)), x(5)))
	first := answers(nil, c, c)
	for range 3 {
		Check(nil, list(eq(endless(), endless())))
		Norm(list(eq(endless(), x(7))))
		Apply([]api.Bind{{Var: 2, To: fun(1)}}, c)
		Tidy(list(eq(x(9), x(8))))
		Apart(list(eq(x(200), fun(1))), c)
		for i, answer := range answers(nil, c, c) {
			if !identical(answer, first[i]) {
				t.Errorf("R3: answer %d: %v, and before %v", i, answer, first[i])
			}
		}
		if order, err := Compare(toy(), c[:1], c[2:]); order != api.Equal || err != api.OK {
			t.Errorf("R3: %d, %d", order, err)
		}
		if vars := Vars(c); !slices.Equal(vars, []int{5, 2}) {
			t.Errorf("R3: %v", vars)
		}
	}
}
