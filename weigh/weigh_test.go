package weigh

import (
	"math"
	"slices"
	"strconv"
	"strings"
	"testing"

	"elenchus/api"
	"elenchus/subst"
	"elenchus/term"
)

func fun(head int, args ...api.Term) api.Term { return api.Term{Head: head, Args: args} }

func x(n int, args ...api.Term) api.Term { return api.Term{Head: -1 - n, Args: args} }

func terms(list ...api.Term) []api.Term { return list }

// chain is f(f(.. (end))), of n levels above the end.
func chain(n int, end api.Term) api.Term {
	for range n {
		end = fun(3, end)
	}
	return end
}

// doubled is a full binary tree of n levels above the end, its lists shared on every level.
func doubled(n int, end api.Term) api.Term {
	for range n {
		end = fun(4, end, end)
	}
	return end
}

// broad is a flat term of size n, its leaves the given one; each Head is 10 and the number of its Args.
func broad(n int, leaf api.Term) api.Term { return broadFrom(0, n, leaf) }

// broadFrom is the ith of n subterms that are counted level by level, no more than 8 Args anywhere.
func broadFrom(i, n int, leaf api.Term) api.Term {
	var args []api.Term
	for k := 8*i + 1; k <= 8*i+8 && k < n; k++ {
		args = append(args, broadFrom(k, n, leaf))
	}
	if args == nil {
		return leaf
	}
	return fun(10+len(args), args...)
}

// endless holds itself.
func endless() api.Term {
	args := make([]api.Term, 1)
	args[0] = fun(3, args...)
	return args[0]
}

func truth() api.Sym { return api.Sym{Name: "$true", Weight: 1, Truth: true} }

// toy has individuals of each number of arguments to 3, and predicates to 2: 1 is a, 2 is b, 3 is f, 4 is g, 5 is h, 6 is p, 7 is q, 8 is r.
func toy() []api.Sym {
	return []api.Sym{truth(), {Name: "a", Weight: 3}, {Name: "b", Weight: 1}, {Name: "f", Arity: 1, Weight: 2}, {Name: "g", Arity: 2, Weight: 50}, {Name: "h", Arity: 3, Weight: 1000},
		{Name: "p", Arity: 1, Weight: 7, Truth: true}, {Name: "q", Arity: 2, Weight: 11, Truth: true}, {Name: "r", Weight: 13, Truth: true}}
}

// many is a signature of n symbols with the same Weight; those from 10 to 18 have 0 to 8 arguments, the others none.
func many(n, weight int) []api.Sym {
	g := []api.Sym{truth()}
	for i := 1; i < n; i++ {
		s := api.Sym{Name: "s" + strconv.Itoa(i), Weight: weight}
		if i >= 10 && i <= 18 {
			s.Arity = i - 10
		}
		g = append(g, s)
	}
	return g
}

// with is the toy signature with another symbol at one place.
func with(at int, change func(s *api.Sym)) []api.Sym {
	g := toy()
	change(&g[at])
	return g
}

type named struct {
	name string
	sig  []api.Sym
}

// wrongSignatures are of every kind that is not valid, but for the symbols that wrongSymbols makes.
func wrongSignatures() []named {
	first := func(s api.Sym) []api.Sym { return append([]api.Sym{s}, toy()[1:]...) }
	list := []named{
		{"nil", nil},
		{"empty", []api.Sym{}},
		{"257 symbols", many(257, 1)},
		{"1000 symbols", many(1000, 1)},
		{"another first Name", first(api.Sym{Name: "true", Weight: 1, Truth: true})},
		{"a longer first Name", first(api.Sym{Name: "$true1", Weight: 1, Truth: true})},
		{"a shorter first Name", first(api.Sym{Name: "$tru", Weight: 1, Truth: true})},
		{"capitals in the first Name", first(api.Sym{Name: "$True", Weight: 1, Truth: true})},
		{"$false first", first(api.Sym{Name: "$false", Weight: 1, Truth: true})},
		{"$true with an argument", first(api.Sym{Name: "$true", Arity: 1, Weight: 1, Truth: true})},
		{"$true of Weight 2", first(api.Sym{Name: "$true", Weight: 2, Truth: true})},
		{"$true of Weight 0", first(api.Sym{Name: "$true", Weight: 0, Truth: true})},
		{"$true that is no predicate", first(api.Sym{Name: "$true", Weight: 1})},
		{"no $true", toy()[1:]},
		{"$true second", append([]api.Sym{toy()[1], truth()}, toy()[2:]...)},
		{"$true last", append(toy()[1:], truth())},
		{"the zero symbol alone", make([]api.Sym, 1)},
		{"one other symbol alone", toy()[3:4]},
		{"$true twice alone", []api.Sym{truth(), truth()}},
	}
	for i := range toy() {
		for k := range i {
			list = append(list, named{"the Name of " + strconv.Itoa(i) + " again", with(i, func(s *api.Sym) { s.Name = toy()[k].Name })})
		}
	}
	again := many(256, 1)
	again[255].Name = again[1].Name
	list = append(list, named{"the last of 256 Names again", again})
	return append(list, wrongSymbols()...)
}

// wrongSymbols are signatures with one symbol that no signature may have, at each place.
func wrongSymbols() []named {
	var list []named
	for at := range toy() {
		add := func(name string, change func(s *api.Sym)) {
			list = append(list, named{name + " at " + strconv.Itoa(at), with(at, change)})
		}
		add("no Name", func(s *api.Sym) { s.Name = "" })
		add("a Name of 65 bytes", func(s *api.Sym) { s.Name = strings.Repeat("a", 65) })
		add("a Name of 33 letters and 66 bytes", func(s *api.Sym) { s.Name = strings.Repeat("é", 33) })
		add("a Name of 10000 bytes", func(s *api.Sym) { s.Name = strings.Repeat("a", 10000) })
		for _, n := range []int{-1, 9, 256, math.MaxInt, math.MinInt} {
			add("Arity "+strconv.Itoa(n), func(s *api.Sym) { s.Arity = n })
		}
		for _, n := range []int{0, -1, 1001, math.MaxInt, math.MinInt} {
			add("Weight "+strconv.Itoa(n), func(s *api.Sym) { s.Weight = n })
		}
	}
	return list
}

// rightSignatures are valid ones, at the edges of what is allowed.
func rightSignatures() []named {
	list := []named{
		{"the toy", toy()},
		{"$true alone", []api.Sym{truth()}},
		{"two symbols", toy()[:2]},
		{"255 symbols", many(255, 1)},
		{"256 symbols", many(256, 1)},
		{"Names that differ in their last byte", []api.Sym{truth(), {Name: "$trua", Weight: 1}, {Name: "aa", Weight: 1}, {Name: "ab", Weight: 1}, {Name: "a", Weight: 1}}},
		{"Names that differ in their case", []api.Sym{truth(), {Name: "$TRUE", Weight: 1}, {Name: "f", Weight: 1}, {Name: "F", Weight: 1}}},
		{"long Names that differ in their last byte", []api.Sym{truth(), {Name: strings.Repeat("a", 64), Weight: 1}, {Name: strings.Repeat("a", 63) + "b", Weight: 1}, {Name: strings.Repeat("a", 63), Weight: 1}}},
		{"symbols that differ in their Names alone", []api.Sym{truth(), {Name: "c", Weight: 1, Truth: true}, {Name: "d", Weight: 1, Truth: true}}},
	}
	for at := 1; at < len(toy()); at++ {
		add := func(name string, change func(s *api.Sym)) {
			list = append(list, named{name + " at " + strconv.Itoa(at), with(at, change)})
		}
		for _, name := range []string{"c", "\x00", " ", "é", "\xff\xfe", "$false", "$tru", "$true ", strings.Repeat("a", 64), strings.Repeat("é", 32)} {
			add("the Name "+strconv.Quote(name), func(s *api.Sym) { s.Name = name })
		}
		for n := range 9 {
			add("Arity "+strconv.Itoa(n), func(s *api.Sym) { s.Arity = n })
		}
		for _, n := range []int{1, 2, 999, 1000} {
			add("Weight "+strconv.Itoa(n), func(s *api.Sym) { s.Weight = n })
		}
		add("the other sort", func(s *api.Sym) { s.Truth = !s.Truth })
	}
	return list
}

// wrongTerms are terms that layer 1 does not allow, of every kind; those without measure stand last, so that a test that ends at its first fault does not go into them.
func wrongTerms() []api.Term {
	return terms(x(256), fun(1024), fun(math.MaxInt), fun(math.MinInt), x(0, fun(1)), fun(3, x(0, x(1))), fun(4, fun(1), fun(1024)), fun(6, fun(3, x(256))),
		fun(5, slices.Repeat(terms(fun(1)), 9)...), fun(5, slices.Repeat(terms(fun(1)), 400)...), broad(401, fun(1)), chain(40, x(0)), doubled(300, x(0)), endless())
}

// samples are all terms of size 4 or less over variables and the toy's symbols, with any number of Args; some have a Head that is not in the toy, or Args of a variable.
func samples() []api.Term {
	heads := []int{-1, -3, -300, 0, 1, 3, 4, 6, 7, 9}
	bySize := make([][]api.Term, 5)
	lists := make([][][]api.Term, 5) // lists of terms, by their sizes together
	lists[0] = [][]api.Term{nil}
	for n := 1; n <= 4; n++ {
		for _, h := range heads {
			for _, args := range lists[n-1] {
				bySize[n] = append(bySize[n], fun(h, args...))
			}
		}
		for first := 1; first <= n; first++ {
			for _, t := range bySize[first] {
				for _, rest := range lists[n-first] {
					lists[n] = append(lists[n], append(terms(t), rest...))
				}
			}
		}
	}
	return slices.Concat(bySize...)
}

// grown is a term over the toy that is an individual, its shape told by the digits of the seed; what is left of the seed comes back.
func grown(depth int, seed uint64) (api.Term, uint64) {
	digit := seed % 13
	seed /= 13
	if depth == 0 {
		digit %= 6
	}
	if digit < 4 {
		return x(int(digit)), seed
	}
	head := []int{1, 2, 3, 3, 4, 4, 5, 5, 5}[digit-4]
	t := fun(head)
	for range toy()[head].Arity {
		var arg api.Term
		arg, seed = grown(depth-1, seed)
		t.Args = append(t.Args, arg)
	}
	return t, seed
}

// scattered is a row of seeds, the same in every run.
func scattered(n int) []uint64 {
	seeds := make([]uint64, n)
	state := uint64(1)
	for i := range seeds {
		for range 2 {
			state = state*6364136223846793005 + 1442695040888963407
			seeds[i] = seeds[i]<<32 ^ state>>21
		}
	}
	return seeds
}

// rightTerms are individuals and atoms over the toy.
func rightTerms() []api.Term {
	list := terms(x(0), x(255), fun(0), fun(1), fun(2), fun(8), fun(3, x(7)), fun(6, fun(3, x(7))), fun(7, x(1), x(1)), chain(39, fun(1)), chain(39, x(255)), fun(6, chain(38, x(0))), doubled(7, x(2)))
	for i, seed := range scattered(600) {
		t, rest := grown(5, seed)
		switch i % 3 {
		case 1:
			t = fun(6, t)
		case 2:
			u, _ := grown(4, rest)
			t = fun(7, t, u)
		}
		if term.Check(t) == api.OK {
			list = append(list, t)
		}
	}
	return list
}

// The document's words, one by one, to hold the package against.

func plainSubterms(t api.Term) []api.Term {
	list := terms(t)
	for _, arg := range t.Args {
		list = append(list, plainSubterms(arg)...)
	}
	return list
}

// plainTerm is Term for a valid signature.
func plainTerm(g []api.Sym, t api.Term) api.Errno {
	if err := term.Check(t); err != api.OK {
		return err
	}
	for _, s := range plainSubterms(t) {
		if s.Head >= 0 && (s.Head >= len(g) || len(s.Args) != g[s.Head].Arity) {
			return api.ErrArg
		}
	}
	for _, s := range plainSubterms(t)[1:] {
		if s.Head >= 0 && g[s.Head].Truth {
			return api.ErrSort
		}
	}
	return api.OK
}

func plainWeight(g []api.Sym, t api.Term) int {
	weight := 0
	for _, s := range plainSubterms(t) {
		if s.Head < 0 {
			weight++
		} else {
			weight += g[s.Head].Weight
		}
	}
	return weight
}

func plainCounts(t api.Term) []int {
	var counts []int
	for _, s := range plainSubterms(t) {
		v := -1 - s.Head
		if s.Head >= 0 || v > 255 {
			continue
		}
		for len(counts) <= v {
			counts = append(counts, 0)
		}
		counts[v]++
	}
	return counts
}

func TestCheckP7_1(t *testing.T) {
	for _, c := range rightSignatures() {
		if err := Check(c.sig); err != api.OK {
			t.Errorf("P7.1: %s: %d", c.name, err)
		}
	}
	for _, c := range wrongSignatures() {
		if err := Check(c.sig); err != api.ErrArg {
			t.Errorf("P7.1: %s: %d", c.name, err)
		}
	}
}

func TestFindP7_1(t *testing.T) {
	for n, s := range toy() {
		if got, found := Find(toy(), s.Name); got != n || !found {
			t.Errorf("P7.1: %s: %d, %v, not %d", s.Name, got, found, n)
		}
	}
	for _, name := range []string{"", "c", "A", "F", "$true ", "true", "$tru", "aa", "\x00", "a\x00", strings.Repeat("a", 65)} {
		if got, found := Find(toy(), name); got != 0 || found {
			t.Errorf("P7.1: %q: %d, %v", name, got, found)
		}
	}
}

// A list of symbols need not be valid to be searched.
func TestFindInAnyListP7_1(t *testing.T) {
	long := strings.Repeat("a", 1000)
	odd := []api.Sym{{Name: "b"}, {Name: ""}, {Name: "b", Weight: 1}, {Name: long}, {Name: "$true", Arity: -1}, {}, {Name: "é"}, {Name: "\xc3"}, {Name: long + "b"}, {Name: long}}
	for _, c := range []struct {
		name  string
		sig   []api.Sym
		find  string
		want  int
		found bool
	}{
		{"nil", nil, "a", 0, false},
		{"nil, no name", nil, "", 0, false},
		{"empty", []api.Sym{}, "$true", 0, false},
		{"twice, from the first place on", odd, "b", 0, true},
		{"twice, later", odd, "", 1, true},
		{"twice, a long name", odd, long, 3, true},
		{"a longer name", odd, long + "b", 8, true},
		{"a shorter name", odd, long[1:], 0, false},
		{"$true, not first", odd, "$true", 4, true},
		{"two bytes", odd, "é", 6, true},
		{"one byte of them", odd, "\xc3", 7, true},
		{"the other byte", odd, "\xa9", 0, false},
		{"$true twice", []api.Sym{truth(), truth()}, "$true", 0, true},
		{"the last of 256", many(256, 1), "s255", 255, true},
		{"the last of 5000", many(5000, 0), "s4999", 4999, true},
		{"none of 5000", many(5000, 0), "s5000", 0, false},
	} {
		if got, found := Find(c.sig, c.find); got != c.want || found != c.found {
			t.Errorf("P7.1: %s: %d, %v, not %d, %v", c.name, got, found, c.want, c.found)
		}
	}
}

func TestTermP7_2(t *testing.T) {
	a := fun(1)
	for _, c := range []struct {
		name string
		term api.Term
		want api.Errno
	}{
		{"a variable", x(0), api.OK},
		{"the greatest variable", x(255), api.OK},
		{"a variable with an empty list", api.Term{Head: -1, Args: terms()}, api.OK},
		{"a constant", a, api.OK},
		{"a constant with an empty list", api.Term{Head: 1, Args: terms()}, api.OK},
		{"individuals of each number of arguments", fun(5, fun(3, x(0)), fun(4, a, x(1)), fun(2)), api.OK},
		{"an atom", fun(6, fun(3, a)), api.OK},
		{"an atom of two", fun(7, x(0), x(0)), api.OK},
		{"an atom of none", fun(8), api.OK},
		{"$true", fun(0), api.OK},
		{"the zero term", api.Term{}, api.OK},
		{"depth 40", chain(39, a), api.OK},

		{"the first Head that is no symbol", fun(9), api.ErrArg},
		{"the greatest Head of layer 1", fun(1023), api.ErrArg},
		{"no symbol inside", fun(4, a, fun(3, fun(9))), api.ErrArg},
		{"no symbol with an argument", fun(9, a), api.ErrArg},
		{"an argument too few", fun(4, a), api.ErrArg},
		{"no arguments", fun(3), api.ErrArg},
		{"an argument too many", fun(3, a, a), api.ErrArg},
		{"an argument of a constant", fun(1, a), api.ErrArg},
		{"an argument of $true", fun(0, a), api.ErrArg},
		{"an argument too few inside", fun(3, fun(5, a, x(0))), api.ErrArg},
		{"an argument too many, last", fun(4, a, fun(2, x(0))), api.ErrArg},
		{"an atom with too few", fun(6), api.ErrArg},
		{"an atom with too many", fun(6, a, a), api.ErrArg},

		{"$true inside", fun(3, fun(0)), api.ErrSort},
		{"an atom in an individual", fun(3, fun(6, a)), api.ErrSort},
		{"an atom in an atom", fun(6, fun(6, a)), api.ErrSort},
		{"an atom deep inside", fun(6, fun(4, a, fun(3, fun(8)))), api.ErrSort},
		{"an atom as the first argument", fun(5, fun(8), a, a), api.ErrSort},
		{"an atom as the last argument", fun(5, a, x(0), fun(8)), api.ErrSort},
		{"two atoms side by side", fun(7, fun(8), fun(0)), api.ErrSort},

		{"too long", broad(401, a), api.ErrLong},
		{"shared without measure", doubled(300, a), api.ErrLong},
		{"no end", endless(), api.ErrLong},
		{"depth 41", chain(40, a), api.ErrDeep},
		{"depth 41 in an atom", fun(6, chain(39, a)), api.ErrDeep},
		{"variable 256", x(256), api.ErrArg},
		{"variable 256 inside", fun(4, a, x(256)), api.ErrArg},
		{"a variable with an argument", fun(3, x(0, a)), api.ErrArg},
		{"Head 1024", fun(1024), api.ErrArg},

		{"an atom on the left, no symbol on the right", fun(4, fun(8), fun(9)), api.ErrArg},
		{"no symbol around an atom", fun(9, fun(8)), api.ErrArg},
		{"an atom with too many inside", fun(3, fun(6, a, a)), api.ErrArg},
		{"an atom around a wrong number", fun(3, fun(6, fun(3))), api.ErrArg},
		{"an atom beside variable 256", fun(4, fun(8), x(256)), api.ErrArg},
		{"too long and deep", chain(400, a), api.ErrLong},
		{"too long, of no symbols", broad(401, fun(9)), api.ErrLong},
		{"too deep, of no symbols", chain(40, fun(9)), api.ErrDeep},
		{"too deep, atoms inside", chain(40, fun(8)), api.ErrDeep},
		{"too deep, with a wrong variable", chain(40, x(256)), api.ErrDeep},
	} {
		if got := Term(toy(), c.term); got != c.want {
			t.Errorf("P7.2: %s: %d, not %d", c.name, got, c.want)
		}
	}
}

func TestTermOfOtherSignaturesP7_2(t *testing.T) {
	g := many(256, 1)
	for _, c := range []struct {
		name string
		sig  []api.Sym
		term api.Term
		want api.Errno
	}{
		{"$true of nothing else", toy()[:1], fun(0), api.OK},
		{"a variable where there are no individuals", toy()[:1], x(3), api.OK},
		{"no symbol but $true", toy()[:1], fun(1), api.ErrArg},
		{"the last of 256", g, fun(255), api.OK},
		{"behind the last of 256", g, fun(256), api.ErrArg},
		{"size 400", g, broad(400, fun(1)), api.OK},
		{"size 400 with a predicate", g, broad(400, fun(0)), api.ErrSort},
		{"size 400 with no symbol", g, broad(400, fun(256)), api.ErrArg},
		{"size 401", g, broad(401, fun(1)), api.ErrLong},
		{"8 arguments", g, fun(18, slices.Repeat(terms(x(0)), 8)...), api.OK},
		{"7 of 8 arguments", g, fun(18, slices.Repeat(terms(x(0)), 7)...), api.ErrArg},
		{"9 of 8 arguments", g, fun(18, slices.Repeat(terms(x(0)), 9)...), api.ErrArg},
	} {
		if got := Term(c.sig, c.term); got != c.want {
			t.Errorf("P7.2: %s: %d, not %d", c.name, got, c.want)
		}
	}
}

// The signature's fault goes ahead of the term's.
func TestTermWrongSignatureP7_2(t *testing.T) {
	for _, c := range wrongSignatures() {
		for i, u := range append(terms(x(0), fun(0), fun(1), fun(3, fun(6, fun(1)))), wrongTerms()...) {
			if got := Term(c.sig, u); got != api.ErrArg {
				t.Errorf("P7.2: %s, term %d: %d", c.name, i, got)
			}
			if n, err := Weight(c.sig, u); n != 0 || err != api.ErrArg {
				t.Errorf("P7.3: %s, term %d: %d, %d", c.name, i, n, err)
			}
		}
	}
}

func TestWeightP7_3(t *testing.T) {
	ones := many(256, 1)
	heavy := many(256, 1000)
	g := []api.Sym{truth(), {Name: "a", Weight: 1}, {Name: "f", Arity: 1, Weight: 1}, {Name: "g", Arity: 2, Weight: 1}}
	for _, c := range []struct {
		name string
		sig  []api.Sym
		term api.Term
		want int
	}{
		{"the document's example", g, fun(3, x(0), fun(2, x(0))), 4},
		{"a variable", toy(), x(0), 1},
		{"the greatest variable", toy(), x(255), 1},
		{"a variable where symbols are heavy", heavy, x(9), 1},
		{"$true", toy(), fun(0), 1},
		{"a constant", toy(), fun(1), 3},
		{"one symbol", toy(), fun(3, x(0)), 3},
		{"a symbol more often", toy(), fun(3, fun(3, fun(3, fun(1)))), 9},
		{"each symbol and variable", toy(), fun(5, fun(4, x(0), x(1)), fun(3, fun(1)), fun(2)), 1000 + 50 + 1 + 1 + 2 + 3 + 1},
		{"a variable more often", toy(), fun(4, x(5), fun(4, x(5), x(5))), 103},
		{"an atom", toy(), fun(6, fun(3, fun(1))), 7 + 2 + 3},
		{"an atom of two", toy(), fun(7, x(0), fun(2)), 11 + 1 + 1},
		{"an atom of none", toy(), fun(8), 13},
		{"depth 40", toy(), chain(39, fun(1)), 2*39 + 3},
		{"size 255 in shared lists", toy(), doubled(7, x(0)), 127*50 + 128},
		{"size 400, Weights 1", ones, broad(400, fun(1)), 400},
		{"size 400, Weights 1000", heavy, broad(400, fun(1)), 400000},
		{"an empty list", toy(), api.Term{Head: 1, Args: terms()}, 3},
	} {
		if got, err := Weight(c.sig, c.term); got != c.want || err != api.OK {
			t.Errorf("P7.3: %s: %d, %d, not %d", c.name, got, err, c.want)
		}
	}
	for i, u := range rightTerms() {
		if got, err := Weight(toy(), u); got != plainWeight(toy(), u) || err != api.OK {
			t.Errorf("P7.3: right term %d, %v: %d, %d, not %d", i, u, got, err, plainWeight(toy(), u))
		}
	}
}

func TestWeightWrongP7_3(t *testing.T) {
	for i, c := range []struct {
		term api.Term
		want api.Errno
	}{
		{fun(9), api.ErrArg}, {fun(3), api.ErrArg}, {fun(1, fun(1)), api.ErrArg}, {x(256), api.ErrArg}, {fun(3, x(0, fun(1))), api.ErrArg}, {fun(4, fun(8), fun(9)), api.ErrArg},
		{fun(3, fun(8)), api.ErrSort}, {fun(6, fun(0)), api.ErrSort}, {fun(7, x(0), fun(6, x(0))), api.ErrSort},
		{chain(40, fun(1)), api.ErrDeep}, {chain(40, fun(9)), api.ErrDeep}, {broad(401, fun(1)), api.ErrLong}, {doubled(300, x(0)), api.ErrLong}, {endless(), api.ErrLong},
	} {
		if got, err := Weight(toy(), c.term); got != 0 || err != c.want {
			t.Errorf("P7.3: wrong term %d: %d, %d, not %d", i, got, err, c.want)
		}
	}
}

func TestAllSmallTermsP7_2P7_3(t *testing.T) {
	g := toy()
	met := map[api.Errno]int{}
	for _, u := range samples() {
		want := plainTerm(g, u)
		met[want]++
		if got := Term(g, u); got != want {
			t.Fatalf("P7.2: %v: %d, not %d", u, got, want)
		}
		weight := 0
		if want == api.OK {
			weight = plainWeight(g, u)
		}
		if got, err := Weight(g, u); got != weight || err != want {
			t.Fatalf("P7.3: %v: %d, %d, not %d, %d", u, got, err, weight, want)
		}
		if got := Counts(u); !slices.Equal(got, plainCounts(u)) {
			t.Fatalf("P7.3: %v: %v, not %v", u, got, plainCounts(u))
		}
	}
	if met[api.OK] < 40 || met[api.ErrArg] < 40 || met[api.ErrSort] < 40 {
		t.Errorf("P7.2: the samples are of too few kinds: %v", met)
	}
}

func TestCountsP7_3(t *testing.T) {
	only := func(v, n int) []int { return append(make([]int, v), n) }
	for _, c := range []struct {
		name string
		term api.Term
		want []int
	}{
		{"the document's example", fun(3, x(0), fun(2, x(0))), []int{2}},
		{"the zero term", api.Term{}, nil},
		{"a constant", fun(1), nil},
		{"no variables", fun(4, fun(3, fun(1)), fun(2)), nil},
		{"variable 0", x(0), []int{1}},
		{"variable 2 alone", x(2), []int{0, 0, 1}},
		{"variables left out", fun(4, fun(3, x(5)), fun(4, x(2), x(5))), []int{0, 0, 1, 0, 0, 2}},
		{"the greatest first", fun(5, x(2), x(1), x(0)), []int{1, 1, 1}},
		{"the greatest last", fun(5, x(0), x(2), x(0)), []int{2, 0, 1}},
		{"in shared lists", doubled(7, x(1)), []int{0, 128}},
		{"variable 255", fun(3, x(255)), only(255, 1)},
		{"variable 256", x(256), nil},
		{"variable 256 beside others", fun(5, x(256), x(1), x(256)), []int{0, 1}},
		{"variable 256 beside 255", fun(4, x(255), x(256)), only(255, 1)},
		{"the greatest number", fun(5, x(math.MaxInt), x(0), fun(math.MinInt)), []int{1}},
		{"Args of a variable", x(1, x(0), x(1, x(3))), []int{1, 2, 0, 1}},
		{"Args of a variable that is ignored", x(256, x(1), fun(3, x(1))), []int{0, 2}},
		{"symbols of no signature", fun(math.MaxInt, x(0), fun(1024, x(0)), fun(255), fun(256)), []int{2}},
		{"one Head with various numbers of Args", fun(1, fun(1, x(0)), fun(1, x(0), x(1)), fun(1)), []int{2, 1}},
		{"an empty list", api.Term{Head: -1, Args: terms()}, []int{1}},
		{"more than 8 Args", fun(5, slices.Repeat(terms(x(1), x(2)), 5000)...), []int{0, 5000, 5000}},
		{"a size of more than 400", doubled(12, x(1)), []int{0, 4096}},
		{"a size of more than 400, two variables", fun(4, doubled(15, x(0)), doubled(14, x(2))), []int{32768, 0, 16384}},
		{"65536 levels", chain(65535, x(3)), []int{0, 0, 0, 1}},
	} {
		if got := Counts(c.term); !slices.Equal(got, c.want) {
			t.Errorf("P7.3: %s: %v, not %v", c.name, got, c.want)
		}
	}
	for i, u := range rightTerms() {
		if got := Counts(u); !slices.Equal(got, plainCounts(u)) {
			t.Errorf("P7.3: right term %d, %v: %v, not %v", i, u, got, plainCounts(u))
		}
	}
}

// Every variable that a valid term may have, each a different number of times.
func TestCountsOfEachVariableP7_3(t *testing.T) {
	whole := fun(5)
	want := make([]int, 256)
	for v := range 256 {
		want[v] = (v*7)%5 + 1
		for range want[v] {
			whole.Args = append(whole.Args, fun(3, x(v)))
		}
		if got := Counts(whole); !slices.Equal(got, want[:v+1]) {
			t.Fatalf("P7.3: up to variable %d: %v", v, got)
		}
	}
	slices.Reverse(whole.Args)
	if got := Counts(whole); !slices.Equal(got, want) {
		t.Errorf("P7.3: in the opposite order: %v", got)
	}
}

func TestSubtermsAreLighterP7_4(t *testing.T) {
	for _, u := range rightTerms() {
		whole, err := Weight(toy(), u)
		if err != api.OK {
			t.Fatalf("P7.4: %v: %d", u, err)
		}
		for _, part := range plainSubterms(u)[1:] {
			if n, err := Weight(toy(), part); n >= whole || err != api.OK {
				t.Fatalf("P7.4: %v in %v: %d, %d, not below %d", part, u, n, err, whole)
			}
		}
	}
}

// What a term with its variables replaced weighs is told by the counts of these, and is never less.
func TestReplacedVariablesP7_4(t *testing.T) {
	all := rightTerms()
	seeds := scattered(4 * len(all))
	tried, heavier := 0, 0
	for i, u := range all {
		var s []api.Bind
		for v := range 4 {
			if by, _ := grown(2, seeds[4*i+v]); !term.Same(by, x(v)) {
				s = append(s, api.Bind{Var: v, To: by})
			}
		}
		instance, err := subst.Apply(s, u)
		if err != api.OK {
			continue
		}
		before, _ := Weight(toy(), u)
		after, err := Weight(toy(), instance)
		want := before
		counts := append(Counts(u), 0, 0, 0, 0)
		for _, b := range s {
			by, _ := Weight(toy(), b.To)
			if by < 1 {
				t.Fatalf("P7.4: %v weighs %d, less than a variable", b.To, by)
			}
			want += counts[b.Var] * (by - 1)
		}
		if after != want || after < before || err != api.OK {
			t.Fatalf("P7.4: %v by %v: %d, %d, not %d; before %d", u, s, after, err, want, before)
		}
		tried++
		if after > before {
			heavier++
		}
	}
	if tried < 300 || heavier < 100 {
		t.Errorf("P7.4: %d tried, %d heavier", tried, heavier)
	}
}

// The lightest terms weigh as much as a variable, not less.
func TestLightestP7_4(t *testing.T) {
	for _, u := range terms(fun(0), fun(2), x(0)) {
		if n, err := Weight(toy(), u); n != 1 || err != api.OK {
			t.Errorf("P7.4: %v: %d, %d", u, n, err)
		}
	}
}

// Nothing that is handed in is written to, and what Counts answers is in memory of its own.
func TestApartR2(t *testing.T) {
	for _, u := range append(samples()[:200], rightTerms()...) {
		g, own := toy(), term.Copy(u)
		Check(g)
		Find(g, "q")
		Term(g, own)
		Weight(g, own)
		want := plainCounts(u)
		counts := Counts(own)
		_ = append(counts, 77)
		for i := range counts {
			counts[i] = -5
		}
		if !slices.Equal(g, toy()) || !term.Same(own, u) {
			t.Fatalf("R2: %v was changed to %v, or the signature to %v", u, own, g)
		}
		if got := Counts(own); !slices.Equal(got, want) {
			t.Fatalf("R2: %v: %v, not %v, after writing to an answer", u, got, want)
		}
	}
}

// No call hangs on the calls before it, with whatever signature.
func TestAgainR3(t *testing.T) {
	light := toy()
	for i := range light {
		light[i].Weight = 1
	}
	for _, u := range rightTerms() {
		for range 3 {
			heavy, _ := Weight(toy(), u)
			if n, err := Weight(light, u); n != term.Size(u) || err != api.OK || heavy != plainWeight(toy(), u) {
				t.Fatalf("R3: %v: %d, %d, and %d", u, n, err, heavy)
			}
			Check(nil)
			Term(light, endless())
		}
	}
}
