package kbo

import (
	"slices"
	"strconv"
	"testing"

	"elenchus/api"
	"elenchus/place"
	"elenchus/subst"
	"elenchus/term"
	"elenchus/weigh"
)

func fun(head int, args ...api.Term) api.Term { return api.Term{Head: head, Args: args} }

func x(n int, args ...api.Term) api.Term { return api.Term{Head: -1 - n, Args: args} }

func terms(list ...api.Term) []api.Term { return list }

// chain is f(f(.. (end))), of n levels above the end.
func chain(n int, end api.Term) api.Term {
	for range n {
		end = fun(4, end)
	}
	return end
}

// leaning is g(g(.. (end, side), side), side), of n levels above the end.
func leaning(n int, end, side api.Term) api.Term {
	for range n {
		end = fun(5, end, side)
	}
	return end
}

// doubled is a full binary tree of n levels above the end, its lists shared on every level.
func doubled(n int, end api.Term) api.Term {
	for range n {
		end = fun(5, end, end)
	}
	return end
}

// broad is a flat term of n symbols with seven arguments each; its size is 7 * n + 1, if that of the leaf is 1.
func broad(n int, leaf api.Term) api.Term { return broadFrom(0, n, leaf) }

// broadFrom is the ith subterm, counted level by level.
func broadFrom(i, n int, leaf api.Term) api.Term {
	if i >= n {
		return leaf
	}
	t := fun(14)
	for k := range 7 {
		t.Args = append(t.Args, broadFrom(7*i+1+k, n, leaf))
	}
	return t
}

// endless holds itself.
func endless() api.Term {
	args := make([]api.Term, 1)
	args[0] = fun(4, args...)
	return args[0]
}

func truth() api.Sym { return api.Sym{Name: "$true", Weight: 1, Truth: true} }

// toy has symbols of the same Weight, and others. 1 to 3 are a, b and the heavier c; 4 is f, 5 is g, 6 is h, of one, two and two arguments, h heavier; 7 is k, of one argument, as heavy as h; 8 is m, of three.
// 9 to 11 are the predicates p, q and r, of one, two and no arguments; 12 is d, heavier than all; 13 is e, a constant again of Weight 1; 14 is w, of seven.
func toy() []api.Sym {
	return []api.Sym{truth(), {Name: "a", Weight: 1}, {Name: "b", Weight: 1}, {Name: "c", Weight: 3},
		{Name: "f", Arity: 1, Weight: 1}, {Name: "g", Arity: 2, Weight: 1}, {Name: "h", Arity: 2, Weight: 2}, {Name: "k", Arity: 1, Weight: 2}, {Name: "m", Arity: 3, Weight: 1},
		{Name: "p", Arity: 1, Weight: 1, Truth: true}, {Name: "q", Arity: 2, Weight: 2, Truth: true}, {Name: "r", Weight: 1, Truth: true},
		{Name: "d", Weight: 1000}, {Name: "e", Weight: 1}, {Name: "w", Arity: 7, Weight: 1}}
}

// wrongSignatures are of various kinds that are not valid.
func wrongSignatures() [][]api.Sym {
	with := func(at int, s api.Sym) []api.Sym {
		g := toy()
		g[at] = s
		return g
	}
	long := toy()
	for len(long) <= 256 {
		long = append(long, api.Sym{Name: "s" + strconv.Itoa(len(long)), Weight: 1})
	}
	return [][]api.Sym{nil, {}, toy()[1:], long, with(0, api.Sym{Name: "$true", Weight: 1}), with(1, api.Sym{Name: "b", Weight: 1}), with(1, api.Sym{Weight: 1}),
		with(1, api.Sym{Name: "a"}), with(1, api.Sym{Name: "a", Weight: 1001}), with(4, api.Sym{Name: "f", Arity: 9, Weight: 1}), with(4, api.Sym{Name: "f", Arity: -1, Weight: 1})}
}

type faulty struct {
	name string
	term api.Term
	err  api.Errno
}

// faults are terms of every kind that is not valid over the toy, with the errors of layer 7's Term.
func faults() []faulty {
	a := fun(1)
	return []faulty{
		{"no symbol", fun(15), api.ErrArg},
		{"no symbol inside", fun(5, a, fun(15)), api.ErrArg},
		{"too few arguments", fun(5, a), api.ErrArg},
		{"too many arguments", fun(4, a, a), api.ErrArg},
		{"an argument of a constant", fun(1, a), api.ErrArg},
		{"variable 256", x(256), api.ErrArg},
		{"a variable with an argument", fun(4, x(0, a)), api.ErrArg},
		{"an atom inside", fun(4, fun(9, a)), api.ErrSort},
		{"$true inside", fun(9, fun(0)), api.ErrSort},
		{"too deep", chain(40, a), api.ErrDeep},
		{"too long", broad(58, a), api.ErrLong},
		{"shared without measure", doubled(300, a), api.ErrLong},
		{"no end", endless(), api.ErrLong},
	}
}

// lists are all lists of the terms of a pool, of up to n elements.
func lists(n int, pool []api.Term) [][]api.Term {
	all := [][]api.Term{nil}
	from := 0
	for range n {
		end := len(all)
		for _, l := range all[from:end] {
			for _, t := range pool {
				all = append(all, append(slices.Clone(l), t))
			}
		}
		from = end
	}
	return all
}

// samples are all terms of size 4 or less over a, b, two variables, f, g and k, and the atoms p and q of those of size 2 or less; then some with other symbols.
func samples() []api.Term {
	bySize := make([][]api.Term, 5)
	bySize[1] = terms(x(0), x(1), fun(1), fun(2))
	for n := 2; n <= 4; n++ {
		for _, t := range bySize[n-1] {
			bySize[n] = append(bySize[n], fun(4, t), fun(7, t))
		}
		for left := 1; left < n-1; left++ {
			for _, t := range bySize[left] {
				for _, u := range bySize[n-1-left] {
					bySize[n] = append(bySize[n], fun(5, t, u))
				}
			}
		}
	}
	small := slices.Concat(bySize[:3]...)
	list := slices.Concat(bySize...)
	for _, t := range small {
		list = append(list, fun(9, t), fun(10, t, fun(1)), fun(10, x(1), t), fun(6, t, x(0)), fun(8, t, x(1), fun(2)))
	}
	return append(list, fun(0), fun(3), fun(11), fun(12), fun(13), fun(4, fun(13)), x(255), fun(4, x(255)))
}

// grown is a term over the toy that is an individual, its shape told by the digits of the seed; what is left of the seed comes back.
func grown(depth int, seed uint64) (api.Term, uint64) {
	digit := seed % 15
	seed /= 15
	if depth == 0 {
		digit %= 6
	}
	if digit < 3 {
		return x(int(digit)), seed
	}
	head := []int{1, 2, 3, 4, 4, 5, 5, 5, 6, 6, 7, 8}[digit-3]
	t := fun(head)
	for range toy()[head].Arity {
		var arg api.Term
		arg, seed = grown(depth-1, seed)
		t.Args = append(t.Args, arg)
	}
	return t, seed
}

// scattered is a row of seeds, the same in every run.
func scattered(n int) []uint64 {
	seeds := make([]uint64, n)
	state := uint64(1)
	for i := range seeds {
		for range 2 {
			state = state*6364136223846793005 + 1442695040888963407
			seeds[i] = seeds[i]<<32 ^ state>>21
		}
	}
	return seeds
}

// manyTerms are individuals of up to 5 levels, with an atom now and then.
func manyTerms(n int) []api.Term {
	var list []api.Term
	for i, seed := range scattered(n) {
		t, _ := grown(1+i%4, seed)
		if i%10 == 9 {
			t = fun(9, t)
		}
		list = append(list, t)
	}
	return list
}

// The document's words, one by one, to hold the package against.

func occurrences(t api.Term, v int) int {
	counts := weigh.Counts(t)
	if v >= len(counts) {
		return 0
	}
	return counts[v]
}

func plainGreater(g []api.Sym, a, b api.Term) bool {
	for _, v := range term.Vars(b) {
		if occurrences(a, v) < occurrences(b, v) {
			return false
		}
	}
	heavy, _ := weigh.Weight(g, a)
	light, _ := weigh.Weight(g, b)
	switch {
	case heavy != light:
		return heavy > light
	case a.Head < 0 || b.Head < 0:
		return false
	case a.Head != b.Head:
		return a.Head > b.Head
	}
	for i := range a.Args {
		if !term.Same(a.Args[i], b.Args[i]) {
			return plainGreater(g, a.Args[i], b.Args[i])
		}
	}
	return false
}

func plainCompare(g []api.Sym, a, b api.Term) int {
	switch {
	case term.Same(a, b):
		return 0
	case plainGreater(g, a, b):
		return 1
	case plainGreater(g, b, a):
		return -1
	}
	return 2
}

// plainRest is a without what it has in common with b.
func plainRest(a, b []api.Term) []api.Term {
	b = slices.Clone(b)
	var rest []api.Term
	for _, t := range a {
		i := slices.IndexFunc(b, func(u api.Term) bool { return term.Same(t, u) })
		if i < 0 {
			rest = append(rest, t)
		} else {
			b = slices.Delete(b, i, i+1)
		}
	}
	return rest
}

// plainMore takes how two terms stand to each other from a function.
func plainMore(compare func(a, b api.Term) int, a, b []api.Term) bool {
	a, b = plainRest(a, b), plainRest(b, a)
	if len(a) == 0 {
		return false
	}
	for _, low := range b {
		if !slices.ContainsFunc(a, func(high api.Term) bool { return compare(high, low) == 1 }) {
			return false
		}
	}
	return true
}

func plainMulti(compare func(a, b api.Term) int, a, b []api.Term) int {
	switch {
	case len(plainRest(a, b)) == 0 && len(plainRest(b, a)) == 0:
		return 0
	case plainMore(compare, a, b):
		return 1
	case plainMore(compare, b, a):
		return -1
	}
	return 2
}

// turned is what is told when both sides are exchanged.
func turned(order int) int {
	if order == 2 {
		return 2
	}
	return -order
}

// mustCompare is Compare of terms without errors.
func mustCompare(t *testing.T, g []api.Sym, a, b api.Term) int {
	t.Helper()
	order, err := Compare(g, a, b)
	if err != api.OK {
		t.Fatalf("%v, %v: error %d", a, b, err)
	}
	return order
}

func TestCompareP8_1(t *testing.T) {
	a, b, c, d, e := fun(1), fun(2), fun(3), fun(12), fun(13)
	for _, row := range []struct {
		name  string
		a, b  api.Term
		order int
	}{
		{"a variable itself", x(3), x(3), 0},
		{"a constant itself", a, a, 0},
		{"an empty list beside none", api.Term{Head: 1, Args: terms()}, api.Term{Head: 1}, 0},
		{"a variable with an empty list beside one without", api.Term{Head: -1, Args: terms()}, api.Term{Head: -1}, 0},
		{"$true itself", fun(0), fun(0), 0},
		{"the zero term", api.Term{}, api.Term{}, 0},
		{"the same in other memory", fun(5, x(0), fun(4, a)), fun(5, x(0), fun(4, a)), 0},
		{"the deepest", chain(39, a), chain(39, a), 0},

		{"the later constant of the same Weight", b, a, 1},
		{"a constant after many", e, b, 1},
		{"a heavier constant", c, b, 1},
		{"a heavier constant with a smaller Head", c, e, 1},
		{"the heaviest constant", d, broad(30, a), 1},
		{"a constant and $true", a, fun(0), 1},
		{"$true and a variable", fun(0), x(0), 2},
		{"two variables", x(0), x(1), 2},
		{"the greatest variable and another", x(255), x(0), 2},
		{"a variable and a constant as heavy", x(0), a, 2},
		{"a variable and a heavier constant", x(0), c, 2},
		{"a variable and a term without it", x(0), fun(4, a), 2},
		{"a variable and a term around another", x(0), fun(4, x(1)), 2},
		{"a variable and a term around it", x(0), fun(4, x(0)), -1},
		{"a variable deep inside", x(0), chain(39, x(0)), -1},
		{"the greatest variable inside", fun(4, x(255)), x(255), 1},

		{"one symbol more", fun(4, fun(4, a)), fun(4, b), 1},
		{"heavier, and with a variable", fun(4, x(0)), a, 1},
		{"heavier, but a variable is missing", fun(6, c, c), fun(4, x(0)), 2},
		{"heavier, but a variable is too rare", fun(6, x(0), c), fun(5, x(0), x(0)), 2},
		{"heavier, each variable more often", fun(6, x(0), x(0)), fun(4, x(0)), 1},
		{"a greater Head of the same weight", fun(7, a), fun(5, a, b), 1},
		{"a greater Head of the same weight, a variable more often", fun(7, x(0)), fun(5, x(0), b), 1},
		{"a greater Head of the same weight, a variable missing", fun(7, a), fun(5, x(0), a), 2},
		{"a greater Head, but lighter", fun(7, a), fun(6, a, b), -1},
		{"a smaller Head, the same variables", fun(5, x(0), a), fun(7, x(0)), -1},
		{"greater Args cannot help a smaller Head", fun(5, e, e), fun(7, a), -1},

		{"the first Args", fun(5, b, a), fun(5, a, b), 1},
		{"the second Args", fun(5, a, b), fun(5, a, a), 1},
		{"the third Args", fun(8, a, x(0), e), fun(8, a, x(0), b), 1},
		{"the last of seven Args", fun(14, x(0), x(1), a, a, a, a, b), fun(14, x(0), x(1), a, a, a, a, a), 1},
		{"the first Args decide, not the heaviest", fun(5, fun(4, a), a), fun(5, b, fun(4, e)), 1},
		{"the first Args are lighter", fun(5, a, fun(4, a)), fun(5, fun(4, a), a), -1},
		{"the first Args have no order", fun(5, x(0), b), fun(5, a, b), 2},
		{"the first Args have no order, the second ones have", fun(8, x(0), x(1), b), fun(8, x(1), x(0), a), 2},
		{"the first Args are greater, the second ones hold the variable", fun(5, fun(4, x(0)), x(1)), fun(5, x(0), fun(4, x(1))), 1},
		{"the first Args are greater, a variable is missing behind", fun(5, b, a), fun(5, a, x(0)), 2},
		{"the first Args are less, a variable is missing ahead", fun(5, x(0), a), fun(5, fun(4, x(0)), x(1)), -1},
		{"Args less, variable too rare in the greater one", fun(5, a, x(0)), fun(5, b, a), 2},
		{"Args with no order, the weight decides", fun(5, x(0), fun(6, x(1), x(0))), fun(5, x(1), x(0)), 1},
		{"Args less, the weight decides", fun(5, a, fun(4, a)), fun(5, b, a), 1},
		{"Args less for a variable, which stands behind again", fun(5, a, fun(4, x(0))), fun(5, x(0), a), 1},
		{"Args greater, the weight decides against them", fun(5, b, a), fun(5, a, c), -1},
		{"a difference at depth 40", chain(39, b), chain(39, a), 1},
		{"a difference at depth 40, variables", chain(39, x(0)), chain(39, x(1)), 2},
		{"a deep difference, a weight at the top", leaning(39, a, a), fun(5, leaning(38, b, a), fun(4, a)), -1},
		{"a deep difference without order, all variables again at the top", fun(5, leaning(20, x(0), a), x(1)), fun(5, leaning(20, x(1), a), x(0)), 2},
		{"a deep difference, each level the same behind", leaning(39, b, x(0)), leaning(39, a, x(0)), 1},
		{"size 400, one constant", broad(57, b), broad(57, a), 1},

		{"atoms by their Heads", fun(11), fun(0), 1},
		{"atoms by weight", fun(9, fun(4, a)), fun(10, a, a), -1},
		{"atoms by Args", fun(9, b), fun(9, a), 1},
		{"an atom and $true", fun(9, x(0)), fun(0), 1},
		{"an atom and an individual", fun(9, a), fun(4, e), 1},
		{"an individual and an atom", fun(3), fun(11), 1},
		{"an atom and its argument", fun(9, x(0)), x(0), 1},
	} {
		if order, err := Compare(toy(), row.a, row.b); order != row.order || err != api.OK {
			t.Errorf("P8.1: %s: %d, %d, not %d", row.name, order, err, row.order)
		}
		if order, err := Compare(toy(), row.b, row.a); order != turned(row.order) || err != api.OK {
			t.Errorf("P8.1: %s, exchanged: %d, %d, not %d", row.name, order, err, turned(row.order))
		}
	}
}

func TestExamplesP8_1(t *testing.T) {
	g := []api.Sym{truth(), {Name: "a", Weight: 1}, {Name: "f", Arity: 1, Weight: 1}, {Name: "g", Arity: 2, Weight: 1}}
	if order, err := Compare(g, fun(2, x(0)), x(0)); order != api.More || err != api.OK {
		t.Errorf("P8.1: f(x0), x0: %d, %d", order, err)
	}
	if order, err := Compare(g, fun(2, x(0)), x(1)); order != api.None || err != api.OK {
		t.Errorf("P8.1: f(x0), x1: %d, %d", order, err)
	}
}

// Weights of up to 400 * 1000, and every symbol's own.
func TestCompareOfOtherSignaturesP8_1(t *testing.T) {
	g := []api.Sym{truth()}
	for n := 1; n < 256; n++ {
		g = append(g, api.Sym{Name: "s" + strconv.Itoa(n), Weight: 1 + n*7%5})
	}
	for n := 1; n < 256; n++ {
		for _, m := range []int{1, 2, 3, 4, 5, 127, 128, 129, 255} {
			if order := mustCompare(t, g, fun(n), fun(m)); order != plainCompare(g, fun(n), fun(m)) {
				t.Fatalf("P8.1: %d, %d: %d", n, m, order)
			}
		}
	}
	heavy := toy()
	for n := 1; n < len(heavy); n++ {
		heavy[n].Weight = 1000
	}
	for _, c := range []struct {
		a, b  api.Term
		order int
	}{
		{broad(57, fun(1)), broad(56, fun(12)), 1},
		{broad(57, fun(2)), broad(57, fun(1)), 1},
		{broad(57, x(0)), broad(57, fun(1)), 2},
		{broad(57, fun(1)), x(0), 2},
		{fun(1), x(0), 2},
		{fun(4, x(0)), fun(1), 1},
		{fun(4, x(0)), fun(4, fun(1)), 2},
	} {
		if order := mustCompare(t, heavy, c.a, c.b); order != c.order {
			t.Errorf("P8.1: %v, %v: %d, not %d", c.a, c.b, order, c.order)
		}
	}
}

func TestCompareOfAllSmallTermsP8_1(t *testing.T) {
	g := toy()
	met := map[int]int{}
	list := samples()
	for _, a := range list {
		for _, b := range list {
			want := plainCompare(g, a, b)
			met[want]++
			if order, err := Compare(g, a, b); order != want || err != api.OK {
				t.Fatalf("P8.1: %v, %v: %d, %d, not %d", a, b, order, err, want)
			}
		}
	}
	if met[0] < len(list) || met[1] < 1000 || met[-1] < 1000 || met[2] < 1000 {
		t.Errorf("P8.1: the samples are of too few kinds: %v", met)
	}
}

// Terms that differ a little only, at one position.
func TestCompareOfNeighboursP8_1(t *testing.T) {
	g := toy()
	met := map[int]int{}
	by := terms(x(0), x(1), fun(1), fun(2), fun(4, x(0)), fun(4, fun(1)), fun(5, fun(2), x(1)), fun(7, fun(1)))
	for i, a := range manyTerms(300) {
		for k, at := range place.All(a) {
			if a.Head > 8 && len(at) == 0 {
				continue
			}
			b, err := place.Put(a, at, by[(i+k)%len(by)])
			if err != api.OK {
				t.Fatalf("P8.1: %v, %v: %d", a, at, err)
			}
			want := plainCompare(g, a, b)
			met[want]++
			if order, err := Compare(g, a, b); order != want || err != api.OK {
				t.Fatalf("P8.1: %v, %v: %d, %d, not %d", a, b, order, err, want)
			}
		}
	}
	for order := -1; order <= 2; order++ {
		if met[order] < 20 {
			t.Errorf("P8.1: too few kinds: %v", met)
		}
	}
}

func TestCompareWrongP8_1(t *testing.T) {
	right := terms(x(0), fun(1), fun(0), fun(9, fun(4, x(1))))
	for _, f := range faults() {
		for _, u := range right {
			if order, err := Compare(toy(), f.term, u); order != 0 || err != f.err {
				t.Errorf("P8.1: %s first: %d, %d", f.name, order, err)
			}
			if order, err := Compare(toy(), u, f.term); order != 0 || err != f.err {
				t.Errorf("P8.1: %s second: %d, %d", f.name, order, err)
			}
		}
		for _, second := range faults() {
			if order, err := Compare(toy(), f.term, second.term); order != 0 || err != f.err {
				t.Errorf("P8.1: %s, %s: %d, %d", f.name, second.name, order, err)
			}
		}
		for i, g := range wrongSignatures() {
			if order, err := Compare(g, f.term, right[0]); order != 0 || err != api.ErrArg {
				t.Errorf("P8.1: signature %d, %s: %d, %d", i, f.name, order, err)
			}
		}
	}
	for i, g := range wrongSignatures() {
		for _, u := range right {
			if order, err := Compare(g, u, u); order != 0 || err != api.ErrArg {
				t.Errorf("P8.1: signature %d, %v: %d, %d", i, u, order, err)
			}
		}
	}
}

func TestMultiP8_2(t *testing.T) {
	a, b, c := fun(1), fun(2), fun(3)
	fx := fun(4, x(0))
	for _, row := range []struct {
		name  string
		a, b  []api.Term
		order int
	}{
		{"nothing", nil, nil, 0},
		{"nothing and an empty list", nil, terms(), 0},
		{"the same", terms(a), terms(a), 0},
		{"in another order", terms(a, x(0), fx, a), terms(fx, a, a, x(0)), 0},
		{"twice and once", terms(a, a), terms(a), 1},
		{"each twice, but not the same ones", terms(a, a, b), terms(a, b, b), -1},
		{"something and nothing", terms(x(9)), nil, 1},
		{"a greater one and many", terms(b), terms(a, a, a, a, a, a), 1},
		{"a greater one and what is less, and the same", terms(b, a), terms(a, a, a, a), 1},
		{"a term that is less does no harm", terms(c, a), terms(b, b), 1},
		{"a term without order does no harm", terms(fx, x(1)), terms(x(0)), 1},
		{"the greater one is taken away with its like", terms(c, a), terms(c, b), -1},
		{"one of two is taken away", terms(c, c, a), terms(c, b), 1},
		{"a variable is less than what it is in", terms(x(0), fx), terms(x(0), x(0), x(0)), 1},
		{"two for two", terms(fx, fun(4, x(1))), terms(x(1), x(0), x(1), a), 1},
		{"one of the lesser ones is not less", terms(fx), terms(x(0), x(1)), 2},
		{"each one has a greater one on the other side", terms(fx, x(1)), terms(x(0), fun(4, x(1))), 2},
		{"no order", terms(x(0)), terms(x(1)), 2},
		{"no order, and more of them", terms(x(0), x(0)), terms(x(1)), 2},
		{"no order, behind the same", terms(a, x(0)), terms(x(1), a), 2},
		{"no order of the second one", terms(c, x(0)), terms(b, x(1)), 2},
		{"less and no order", terms(a, x(0)), terms(b), 2},
		{"less and less", terms(a, x(0)), terms(b, fx), -1},
		{"atoms", terms(fun(9, a), fun(0)), terms(fun(0), fun(0)), 1},
		{"an atom and its opposite", terms(fun(9, a), fun(9, a), fun(0), fun(0)), terms(fun(9, a), fun(0)), 1},
		{"an atom and an equation", terms(fun(9, a), fun(0)), terms(b, a), 1},
	} {
		if order, err := Multi(toy(), row.a, row.b); order != row.order || err != api.OK {
			t.Errorf("P8.2: %s: %d, %d, not %d", row.name, order, err, row.order)
		}
		if order, err := Multi(toy(), row.b, row.a); order != turned(row.order) || err != api.OK {
			t.Errorf("P8.2: %s, exchanged: %d, %d, not %d", row.name, order, err, turned(row.order))
		}
	}
}

func TestMultiOfAllSmallListsP8_2(t *testing.T) {
	g := toy()
	met := map[int]int{}
	compare := func(a, b api.Term) int { return plainCompare(g, a, b) }
	list := lists(3, terms(x(0), x(1), fun(4, x(0)), fun(1), fun(5, x(0), x(1)), fun(2)))
	for _, a := range list {
		for _, b := range list {
			want := plainMulti(compare, a, b)
			met[want]++
			if order, err := Multi(g, a, b); order != want || err != api.OK {
				t.Fatalf("P8.2: %v, %v: %d, %d, not %d", a, b, order, err, want)
			}
		}
	}
	for order := -1; order <= 2; order++ {
		if met[order] < len(list) {
			t.Errorf("P8.2: the lists are of too few kinds: %v", met)
		}
	}
}

// For lists of one term each, Multi tells the same as Compare.
func TestMultiOfSingleTermsP8_2(t *testing.T) {
	list := manyTerms(120)
	for _, a := range list {
		for _, b := range list {
			want := mustCompare(t, toy(), a, b)
			if order, err := Multi(toy(), terms(a), terms(b)); order != want || err != api.OK {
				t.Fatalf("P8.2: %v, %v: %d, %d, not %d", a, b, order, err, want)
			}
		}
	}
}

// Longer lists, of which much is the same.
func TestMultiOfLongerListsP8_2(t *testing.T) {
	g := toy()
	met := map[int]int{}
	compare := func(a, b api.Term) int { return plainCompare(g, a, b) }
	pool := append(manyTerms(40), x(0), x(1), fun(4, x(0)), fun(1))
	seeds := scattered(6000)
	pick := func(i int) []api.Term {
		var list []api.Term
		for seed := seeds[i]; seed > 1<<40; seed /= 37 {
			list = append(list, pool[seed%uint64(len(pool))])
		}
		return list
	}
	for i := 0; i < len(seeds); i += 3 {
		same, a, b := pick(i), pick(i+1), pick(i+2)
		a, b = append(a, same...), append(slices.Clone(same), b...)
		if i%4 == 0 {
			b = append(slices.Clone(a[len(a)/2:]), a[:len(a)/3]...)
		}
		if i%5 == 0 {
			b = append(slices.Clone(a[2:]), a[:2]...)
		}
		want := plainMulti(compare, a, b)
		met[want]++
		if order, err := Multi(g, a, b); order != want || err != api.OK {
			t.Fatalf("P8.2: %v, %v: %d, %d, not %d", a, b, order, err, want)
		}
	}
	for order := -1; order <= 2; order++ {
		if met[order] < 100 {
			t.Errorf("P8.2: the lists are of too few kinds: %v", met)
		}
	}
}

// Lists of thousands of terms, in two orders.
func TestMultiOfManyP8_2(t *testing.T) {
	all := slices.Repeat(manyTerms(800), 10)
	back := slices.Clone(all)
	slices.Reverse(back)
	greater := fun(12)
	for _, c := range []struct {
		name  string
		a, b  []api.Term
		order int
	}{
		{"the same", all, back, 0},
		{"one more", all, back[1:], 1},
		{"one more, of another kind", append(slices.Clone(all), x(200)), back, 1},
		{"another one", append(slices.Clone(all), x(200)), append(slices.Clone(back), x(201)), 2},
		{"a greater one beside a lesser one", append(slices.Clone(all), greater), append(slices.Clone(back), fun(1)), 1},
		{"one that is greater than each", terms(greater), slices.Repeat(terms(chain(30, fun(1)), fun(2), fun(3)), 3000), 1},
		{"each of one kind", slices.Repeat(terms(fun(1)), 9000), slices.Repeat(terms(x(0)), 9000), 2},
	} {
		if order, err := Multi(toy(), c.a, c.b); order != c.order || err != api.OK {
			t.Errorf("P8.2: %s: %d, %d, not %d", c.name, order, err, c.order)
		}
		if order, err := Multi(toy(), c.b, c.a); order != turned(c.order) || err != api.OK {
			t.Errorf("P8.2: %s, exchanged: %d, %d", c.name, order, err)
		}
	}
}

func TestMultiWrongP8_2(t *testing.T) {
	a := fun(1)
	for _, f := range faults() {
		for _, second := range faults() {
			for i, c := range []struct{ a, b []api.Term }{
				{terms(f.term), nil},
				{nil, terms(f.term)},
				{terms(a, x(0), f.term), terms(a)},
				{terms(a, x(0)), terms(a, a, f.term)},
				{terms(f.term, second.term), nil},
				{nil, terms(a, f.term, second.term)},
				{terms(a, f.term), terms(second.term)},
				{terms(f.term), terms(f.term)},
			} {
				if order, err := Multi(toy(), c.a, c.b); order != 0 || err != f.err {
					t.Errorf("P8.2: %s, %s, lists %d: %d, %d", f.name, second.name, i, order, err)
				}
			}
		}
		for i, g := range wrongSignatures() {
			if order, err := Multi(g, terms(f.term), nil); order != 0 || err != api.ErrArg {
				t.Errorf("P8.2: signature %d, %s: %d, %d", i, f.name, order, err)
			}
		}
	}
}

// The errors are those of terms, so where there are no terms there is no error.
func TestMultiWrongSignatureP8_2(t *testing.T) {
	for i, g := range wrongSignatures() {
		if order, err := Multi(g, nil, terms()); order != 0 || err != api.OK {
			t.Errorf("P8.2: signature %d, no terms: %d, %d", i, order, err)
		}
		for _, list := range [][]api.Term{terms(x(0)), terms(fun(0)), terms(fun(1), fun(1))} {
			if order, err := Multi(g, list, nil); order != 0 || err != api.ErrArg {
				t.Errorf("P8.2: signature %d, terms of a: %d, %d", i, order, err)
			}
			if order, err := Multi(g, nil, list); order != 0 || err != api.ErrArg {
				t.Errorf("P8.2: signature %d, terms of b: %d, %d", i, order, err)
			}
			if order, err := Multi(g, list, list); order != 0 || err != api.ErrArg {
				t.Errorf("P8.2: signature %d, the same terms: %d, %d", i, order, err)
			}
		}
	}
}

// checkTransitive takes a table of how each stands to each other.
func checkTransitive(t *testing.T, n int, stands func(i, k int) int) {
	t.Helper()
	table := make([][]int, n)
	for i := range n {
		for k := range n {
			table[i] = append(table[i], stands(i, k))
		}
	}
	met := 0
	for i := range n {
		for k := range n {
			if table[i][k] != 1 {
				continue
			}
			for m := range n {
				if table[k][m] != 1 {
					continue
				}
				met++
				if table[i][m] != 1 || table[m][i] != -1 {
					t.Fatalf("P8.3: %d is greater than %d, which is greater than %d: %d, %d", i, k, m, table[i][m], table[m][i])
				}
			}
		}
	}
	if met < 1000 {
		t.Errorf("P8.3: %d triples only", met)
	}
}

func TestTransitiveP8_3(t *testing.T) {
	list := append(samples(), manyTerms(150)...)
	checkTransitive(t, len(list), func(i, k int) int { return mustCompare(t, toy(), list[i], list[k]) })
	rows := lists(3, terms(x(0), x(1), fun(4, x(0)), fun(1), fun(5, x(0), x(1))))
	checkTransitive(t, len(rows), func(i, k int) int {
		order, err := Multi(toy(), rows[i], rows[k])
		if err != api.OK {
			t.Fatalf("P8.3: %v, %v: %d", rows[i], rows[k], err)
		}
		return order
	})
}

func TestSubtermsP8_3(t *testing.T) {
	for _, whole := range append(append(samples(), manyTerms(400)...), chain(39, x(0)), broad(39, x(1)), doubled(7, x(2)), fun(9, chain(38, x(0)))) {
		for _, at := range place.All(whole)[1:] {
			part, _ := place.At(whole, at)
			if order := mustCompare(t, toy(), whole, part); order != api.More {
				t.Fatalf("P8.3: %v, at %v: %d", whole, at, order)
			}
			if order := mustCompare(t, toy(), part, whole); order != api.Less {
				t.Fatalf("P8.3: %v, at %v, exchanged: %d", whole, at, order)
			}
		}
	}
}

// What a part and its replacement are to each other, the whole terms are as well: no order of the parts gives none of the wholes.
func TestReplacedP8_3(t *testing.T) {
	parts := terms(x(0), x(1), fun(1), fun(2), fun(3), fun(4, x(0)), fun(5, x(0), x(1)), fun(5, x(1), x(0)), fun(6, x(0), x(0)), fun(7, x(1)))
	greater := 0
	for _, whole := range append(manyTerms(150), leaning(38, x(1), x(0)), broad(30, x(0))) {
		for _, at := range place.All(whole)[1:] {
			for _, p := range parts {
				for _, q := range parts {
					before, _ := place.Put(whole, at, p)
					after, _ := place.Put(whole, at, q)
					if term.Check(before) != api.OK || term.Check(after) != api.OK || mustCompare(t, toy(), q, p) != api.More {
						continue
					}
					greater++
					if order := mustCompare(t, toy(), after, before); order != api.More {
						t.Fatalf("P8.3: %v for %v in %v at %v: %d", q, p, whole, at, order)
					}
				}
			}
		}
	}
	if greater < 10000 {
		t.Errorf("P8.3: %d cases only", greater)
	}
}

func TestInstancesP8_3(t *testing.T) {
	by := terms(x(0), x(1), x(2), fun(1), fun(2), fun(12), fun(4, x(1)), fun(5, x(0), x(1)), fun(6, fun(1), x(2)), fun(7, x(0)))
	var all [][]api.Bind
	for _, s := range lists(2, by) {
		binds := []api.Bind{}
		for v, to := range s {
			if !term.Same(to, x(v)) {
				binds = append(binds, api.Bind{Var: v, To: to})
			}
		}
		all = append(all, binds)
	}
	list := append(samples(), manyTerms(100)...)
	greater := 0
	for i, a := range list {
		for k := i % 3; k < len(list); k += 3 {
			b := list[k]
			if mustCompare(t, toy(), a, b) != api.More {
				continue
			}
			s := all[(i*31+k*7)%len(all)]
			over, err := subst.Apply(s, a)
			under, err2 := subst.Apply(s, b)
			if err != api.OK || err2 != api.OK {
				continue
			}
			greater++
			if order := mustCompare(t, toy(), over, under); order != api.More {
				t.Fatalf("P8.3: %v is greater than %v, but by %v: %d", a, b, s, order)
			}
		}
	}
	if greater < 10000 {
		t.Errorf("P8.3: %d cases only", greater)
	}
}

func TestTotalWithoutVariablesP8_3(t *testing.T) {
	var ground []api.Term
	for _, u := range append(samples(), manyTerms(300)...) {
		instance, err := subst.Apply([]api.Bind{{Var: 0, To: fun(2)}, {Var: 1, To: fun(13)}, {Var: 2, To: fun(4, fun(1))}, {Var: 255, To: fun(3)}}, u)
		if err == api.OK {
			ground = append(ground, instance)
		}
	}
	for _, a := range ground {
		for _, b := range ground {
			order := mustCompare(t, toy(), a, b)
			if same := term.Same(a, b); same != (order == 0) || !same && order != 1 && order != -1 {
				t.Fatalf("P8.3: %v, %v: %d", a, b, order)
			}
		}
	}
}

// Nothing that is handed in is written to: lists are not sorted in place, nor appended to.
func TestApartR2(t *testing.T) {
	list := append(samples()[:60], manyTerms(60)...)
	for i := range list {
		room := append(slices.Clone(list[i:]), x(250), x(251), x(252))
		a, b := room[:len(room)-3], append(slices.Clone(list[:i]), list...)
		g, copyA, copyB := toy(), []api.Term{}, []api.Term{}
		for _, u := range room {
			copyA = append(copyA, term.Copy(u))
		}
		for _, u := range b {
			copyB = append(copyB, term.Copy(u))
		}
		Multi(g, a, b)
		Multi(g, b, a)
		Compare(g, a[0], b[0])
		if !slices.Equal(g, toy()) || !slices.EqualFunc(room, copyA, term.Same) || !slices.EqualFunc(b, copyB, term.Same) {
			t.Fatalf("R2: an argument was changed, list %d", i)
		}
	}
}

// No call hangs on the calls before it, with whatever signature.
func TestAgainR3(t *testing.T) {
	turnedAbout := toy()
	turnedAbout[1].Weight = 2
	list := manyTerms(30)
	for _, a := range list {
		for _, b := range list {
			for range 2 {
				if order := mustCompare(t, toy(), a, b); order != plainCompare(toy(), a, b) {
					t.Fatalf("R3: %v, %v: %d", a, b, order)
				}
				if order := mustCompare(t, turnedAbout, a, b); order != plainCompare(turnedAbout, a, b) {
					t.Fatalf("R3: %v, %v, a heavier: %d", a, b, order)
				}
				Compare(nil, a, b)
				Multi(toy(), terms(a, endless()), terms(b))
			}
		}
	}
}
