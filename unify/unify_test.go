package unify

import (
	"math"
	"slices"
	"testing"

	"elenchus/api"
	"elenchus/subst"
	"elenchus/term"
)

func fun(head int, args ...api.Term) api.Term { return api.Term{Head: head, Args: args} }

func x(n int, args ...api.Term) api.Term { return api.Term{Head: -1 - n, Args: args} }

func bind(v int, to api.Term) api.Bind { return api.Bind{Var: v, To: to} }

func binds(list ...api.Bind) []api.Bind { return list }

func terms(list ...api.Term) []api.Term { return list }

// chain is f(f(.. (end))), of n levels above the end.
func chain(n int, end api.Term) api.Term {
	for range n {
		end = fun(3, end)
	}
	return end
}

// doubled is a full binary tree of n levels above the end, its lists shared on every level.
func doubled(n int, end api.Term) api.Term {
	for range n {
		end = fun(4, end, end)
	}
	return end
}

// row is one symbol with n arguments.
func row(n int, arg api.Term) api.Term { return fun(5, slices.Repeat(terms(arg), n)...) }

// broad is a flat term of size n, with the end in its first leaf and no more than 8 Args anywhere.
func broad(n int, end api.Term) api.Term {
	t := broadFrom(0, n)
	spot := &t
	for len(spot.Args) > 0 {
		spot = &spot.Args[0]
	}
	*spot = end
	return t
}

// broadFrom is the ith of n subterms that are counted level by level.
func broadFrom(i, n int) api.Term {
	t := fun(6)
	for k := 8*i + 1; k <= 8*i+8 && k < n; k++ {
		t.Args = append(t.Args, broadFrom(k, n))
	}
	return t
}

// endless holds itself.
func endless() api.Term {
	args := make([]api.Term, 1)
	args[0] = fun(3, args...)
	return args[0]
}

// wrongTerms are terms that are not valid, of every kind that layer 1 knows; those without measure stand last, so that a test that ends at its first fault does not go into them.
func wrongTerms() []api.Term {
	return []api.Term{x(256), fun(1024), fun(2000), fun(math.MaxInt), fun(math.MinInt), x(0, fun(1)), fun(3, x(0, x(1))), fun(3, x(256)),
		fun(5, slices.Repeat([]api.Term{fun(1)}, 9)...), broad(401, x(0)), chain(40, x(0)), doubled(300, x(0)), endless()}
}

// samples are all valid terms of size 4 or less over three variables and two Heads, and some of other kinds.
func samples() []api.Term {
	bySize := [][]api.Term{nil, {x(0), x(1), x(2), fun(1), fun(2)}, nil, nil, nil}
	for n := 2; n <= 4; n++ {
		for _, a := range bySize[n-1] {
			bySize[n] = append(bySize[n], fun(3, a))
		}
		for first := 1; first < n-1; first++ {
			for _, a := range bySize[first] {
				for _, b := range bySize[n-1-first] {
					bySize[n] = append(bySize[n], fun(4, a, b))
				}
			}
		}
	}
	return append(slices.Concat(bySize...), fun(4, fun(4, x(0), x(1)), x(2)), fun(4, fun(4, x(2), x(0)), fun(4, x(0), x(1))), fun(4, x(0), fun(4, x(1), x(1))),
		fun(3), fun(4, x(0)), fun(4, x(2), x(1), x(0)), api.Term{}, api.Term{Head: 1, Args: []api.Term{}}, api.Term{Head: -2, Args: []api.Term{}}, x(255))
}

// grown is a term over six variables, its shape told by the digits of the seed; what is left of the seed comes back.
func grown(depth int, seed uint64) (api.Term, uint64) {
	digit := seed % 11
	seed /= 11
	if digit < 5 || depth == 0 {
		return x(int(digit) % 6), seed
	}
	t := fun(int(digit))
	for range digit % 4 {
		var arg api.Term
		arg, seed = grown(depth-1, seed)
		t.Args = append(t.Args, arg)
	}
	return t, seed
}

// scattered is a row of seeds, the same in every run.
func scattered(n int) []uint64 {
	seeds := make([]uint64, n)
	state := uint64(1)
	for i := range seeds {
		for range 2 {
			state = state*6364136223846793005 + 1442695040888963407
			seeds[i] = seeds[i]<<32 ^ state>>21
		}
	}
	return seeds
}

// grownPairs are two lists of some terms.
func grownPairs(seed uint64) ([]api.Term, []api.Term) {
	var lists [2][]api.Term
	for i, s := range scattered(int(2 + seed%5)) {
		for k := range lists {
			t, _ := grown(3, (s+uint64(k))*(seed|1)>>1)
			lists[k] = append(lists[k], t)
		}
		if i > 0 && seed%3 == 0 {
			break
		}
	}
	return lists[0], lists[1]
}

// The document's words, one by one, to hold the package against; they are slow where terms grow.

func plainApply(s []api.Bind, t api.Term) api.Term {
	if t.Head < 0 {
		return subst.Of(s, -1-t.Head)
	}
	c := api.Term{Head: t.Head}
	for _, a := range t.Args {
		c.Args = append(c.Args, plainApply(s, a))
	}
	return c
}

// plainThen tries all variables that there are.
func plainThen(s, u []api.Bind) []api.Bind {
	var both []api.Bind
	for v := range api.MaxVar + 1 {
		if to := plainApply(u, subst.Of(s, v)); !term.Same(to, x(v)) {
			both = append(both, bind(v, to))
		}
	}
	return both
}

// plainBinding is step 2's: the variable that is selected, and the other term.
func plainBinding(a, b api.Term) (int, api.Term) {
	switch {
	case a.Head < 0 && b.Head < 0:
		return -1 - min(a.Head, b.Head), x(-1 - max(a.Head, b.Head))
	case a.Head < 0:
		return -1 - a.Head, b
	}
	return -1 - b.Head, a
}

func plainAll(a, b []api.Term) ([]api.Bind, bool, api.Errno) {
	type pair struct{ a, b api.Term }
	var list []pair
	for i := range a {
		list = append(list, pair{a[i], b[i]})
	}
	var s []api.Bind
	for len(list) > 0 {
		p, q := plainApply(s, list[0].a), plainApply(s, list[0].b)
		list = list[1:]
		if term.Same(p, q) {
			continue
		}
		if p.Head < 0 || q.Head < 0 {
			v, other := plainBinding(p, q)
			if slices.Contains(term.Vars(other), v) {
				return nil, false, api.OK
			}
			s = plainThen(s, binds(bind(v, other)))
			continue
		}
		if p.Head != q.Head || len(p.Args) != len(q.Args) {
			return nil, false, api.OK
		}
		var inner []pair
		for i := range p.Args {
			inner = append(inner, pair{p.Args[i], q.Args[i]})
		}
		list = append(inner, list...)
	}
	for _, b := range s {
		if err := term.Check(b.To); err != api.OK {
			return nil, false, err
		}
	}
	return s, true, api.OK
}

func sameSubst(a, b []api.Bind) bool {
	return slices.EqualFunc(a, b, func(p, q api.Bind) bool { return p.Var == q.Var && term.Same(p.To, q.To) })
}

// wantAll holds one call of All against what it has to answer.
func wantAll(t *testing.T, name string, a, b []api.Term, want []api.Bind, wantOK bool, wantErr api.Errno) {
	t.Helper()
	if s, ok, err := All(a, b); !sameSubst(s, want) || ok != wantOK || err != wantErr {
		t.Errorf("%s: %v, %v, %d, not %v, %v, %d", name, s, ok, err, want, wantOK, wantErr)
	}
}

// mguCases are ordinary inputs and edges; no bindings without ok: there is no unifier.
func mguCases() []struct {
	name string
	a, b api.Term
	want []api.Bind
	ok   bool
} {
	return []struct {
		name string
		a, b api.Term
		want []api.Bind
		ok   bool
	}{
		{"the first example", fun(4, x(0), fun(3, x(1))), fun(4, fun(3, x(1)), x(0)), binds(bind(0, fun(3, x(1)))), true},
		{"the second example", fun(3, x(0)), x(0), nil, false},
		{"zero terms", api.Term{}, api.Term{}, nil, true},
		{"a variable with itself", x(7), x(7), nil, true},
		{"a variable with an empty list", x(7), api.Term{Head: -8, Args: []api.Term{}}, nil, true},
		{"the greater variable is bound, left", x(1), x(0), binds(bind(1, x(0))), true},
		{"the greater variable is bound, right", x(0), x(1), binds(bind(1, x(0))), true},
		{"the greatest variable", x(255), x(254), binds(bind(255, x(254))), true},
		{"the left one is bound", x(0), fun(1), binds(bind(0, fun(1))), true},
		{"the right one is bound", fun(1), x(0), binds(bind(0, fun(1))), true},
		{"symbols are no variables", fun(0), x(0), binds(bind(0, fun(0))), true},
		{"to a term of greater variables", x(0), fun(4, x(1), x(2)), binds(bind(0, fun(4, x(1), x(2)))), true},
		{"other symbols", fun(1), fun(2), nil, false},
		{"one symbol, other numbers of Args", fun(4, x(0)), fun(4, x(0), x(0)), nil, false},
		{"one symbol, no Args and one", fun(4), fun(4, x(0)), nil, false},
		{"other symbols inside", fun(4, x(0), fun(1)), fun(4, x(1), fun(2)), nil, false},
		{"two ways for one variable", fun(4, x(0), x(0)), fun(4, fun(1), fun(2)), nil, false},
		{"one way twice", fun(4, x(0), x(0)), fun(4, fun(1), fun(1)), binds(bind(0, fun(1))), true},
		{"into an earlier binding", fun(4, x(0), x(1)), fun(4, fun(3, x(1)), fun(1)), binds(bind(0, fun(3, fun(1))), bind(1, fun(1))), true},
		{"into an earlier one of a variable", fun(4, x(1), x(0)), fun(4, x(0), fun(1)), binds(bind(0, fun(1)), bind(1, fun(1))), true},
		{"a row of variables", fun(5, x(3), x(2), x(1)), fun(5, x(2), x(1), x(0)), binds(bind(1, x(0)), bind(2, x(0)), bind(3, x(0))), true},
		{"a row of variables, the other way", fun(5, x(0), x(1), x(2)), fun(5, x(1), x(2), x(3)), binds(bind(1, x(0)), bind(2, x(0)), bind(3, x(0))), true},
		{"a lesser one behind", fun(4, x(5), x(5)), fun(4, x(9), x(2)), binds(bind(5, x(2)), bind(9, x(2))), true},
		{"in order, whatever comes first", fun(5, x(9), x(4), x(6)), fun(5, fun(1), fun(2), fun(3)), binds(bind(4, fun(2)), bind(6, fun(3)), bind(9, fun(1))), true},
		{"two bound ones", fun(5, x(0), x(1), x(0)), fun(5, fun(3, x(2)), fun(3, x(3)), x(1)),
			binds(bind(0, fun(3, x(2))), bind(1, fun(3, x(2))), bind(3, x(2))), true},
		{"in itself, by a round", fun(4, x(0), x(1)), fun(4, fun(3, x(1)), fun(3, x(0))), nil, false},
		{"in itself, by a later variable", fun(4, x(0), x(1)), fun(4, fun(3, x(1)), x(0)), nil, false},
		{"in itself, deep inside", x(0), chain(39, x(0)), nil, false},
		{"a round that is none", fun(4, x(0), x(1)), fun(4, x(1), x(0)), binds(bind(1, x(0))), true},
	}
}

func TestMguP4_1(t *testing.T) {
	for _, c := range mguCases() {
		if s, ok, err := Mgu(c.a, c.b); !sameSubst(s, c.want) || ok != c.ok || err != api.OK {
			t.Errorf("P4.1: %s: %v, %v, %d", c.name, s, ok, err)
		}
	}
	all := samples()
	for _, a := range all {
		for _, b := range all {
			want, wantOK, wantErr := plainAll(terms(a), terms(b))
			if s, ok, err := Mgu(a, b); !sameSubst(s, want) || ok != wantOK || err != wantErr {
				t.Fatalf("P4.1: %v, %v: %v, %v, %d", a, b, s, ok, err)
			}
		}
	}
}

func TestMguWrongP4_1(t *testing.T) {
	for i, w := range wrongTerms() {
		for _, a := range append(terms(w), samples()[:40]...) {
			for _, p := range [][2]api.Term{{a, w}, {w, a}} {
				if s, ok, err := Mgu(p[0], p[1]); len(s) != 0 || ok || err != api.ErrArg {
					t.Fatalf("P4.1: wrong term %d: %v, %d", i, ok, err)
				}
			}
		}
	}
}

func TestMguLimitsP4_1(t *testing.T) {
	for _, c := range []struct {
		name string
		a, b api.Term
		want api.Errno
	}{
		{"size 400, handed in", x(0), broad(400, x(1)), api.OK},
		{"size 400", fun(4, x(0), x(1)), fun(4, row(7, x(1)), broad(57, x(2))), api.OK},
		{"size 401", fun(4, x(0), x(1)), fun(4, row(8, x(1)), broad(50, x(2))), api.ErrLong},
		{"size 401, of the last binding", fun(4, x(1), x(0)), fun(4, row(8, x(0)), broad(50, x(2))), api.ErrLong},
		{"far too long", fun(5, x(0), x(1), x(2)), fun(5, doubled(6, x(1)), doubled(5, x(2)), broad(11, x(3))), api.ErrLong},
		{"depth 40, handed in", x(0), chain(39, fun(1)), api.OK},
		{"depth 40", fun(4, x(0), x(1)), fun(4, chain(20, x(1)), chain(19, fun(1))), api.OK},
		{"depth 41", fun(4, x(0), x(1)), fun(4, chain(20, x(1)), chain(20, fun(1))), api.ErrDeep},
		{"depth 41, not in the last argument", fun(4, x(0), x(1)), fun(4, fun(4, chain(20, x(1)), fun(1)), chain(19, fun(1))), api.ErrDeep},
		{"long and deep", fun(5, x(0), x(1)), fun(5, doubled(6, x(1)), chain(35, x(2))), api.ErrLong},
		{"deep ahead of long", fun(5, x(9), x(0), x(1)), fun(5, chain(8, x(2)), chain(35, x(9)), doubled(6, x(9))), api.ErrDeep},
		{"long ahead of deep", fun(5, x(9), x(1), x(0)), fun(5, chain(8, x(2)), chain(35, x(9)), doubled(6, x(9))), api.ErrLong},
		{"deep, behind one that is valid", fun(5, x(9), x(0), x(1)), fun(5, chain(8, x(2)), chain(3, x(9)), chain(35, x(9))), api.ErrDeep},
		{"the terms too long, not the bindings", fun(4, broad(300, x(0)), x(1)), fun(4, broad(300, chain(5, x(2))), chain(5, x(3))), api.OK},
	} {
		wantS, wantOK, wantErr := plainAll(terms(c.a), terms(c.b))
		s, ok, err := Mgu(c.a, c.b)
		if err != c.want || err != wantErr || ok != wantOK || ok != (err == api.OK) || !sameSubst(s, wantS) {
			t.Errorf("P4.1: %s: %v, %d, not %d, the document's words: %d", c.name, ok, err, c.want, wantErr)
		}
	}
}

func TestMguNoneBeforeLimitsP4_1(t *testing.T) {
	long := fun(5, x(0), x(1), x(2))
	for _, c := range []struct {
		name string
		a, b api.Term
	}{
		{"other symbols behind one too long", fun(4, long, fun(1)), fun(4, fun(5, doubled(6, x(1)), doubled(3, x(2)), fun(1)), fun(2))},
		{"in itself behind one too long", fun(4, long, x(7)), fun(4, fun(5, doubled(6, x(1)), doubled(3, x(2)), fun(1)), fun(3, x(7)))},
		{"in itself, that one being too long", fun(4, x(1), x(0)), fun(4, doubled(6, x(0)), doubled(6, x(1)))},
		{"other symbols inside terms too deep", fun(5, x(0), x(1), x(2), x(3), x(0)), fun(5, chain(30, x(2)), chain(30, x(3)), chain(30, fun(1)), chain(30, fun(2)), x(1))},
	} {
		if s, ok, err := Mgu(c.a, c.b); len(s) != 0 || ok || err != api.OK {
			t.Errorf("P4.1: %s: %v, %d", c.name, ok, err)
		}
	}
	deep := fun(5, chain(20, x(2)), chain(20, x(3)), chain(20, fun(1)), chain(20, fun(1)), x(1))
	if s, ok, err := Mgu(fun(5, x(0), x(1), x(2), x(3), x(0)), deep); len(s) != 0 || ok || err != api.ErrDeep {
		t.Errorf("P4.1: the same with a unifier: %v, %d", ok, err)
	}
}

func TestAllP4_2(t *testing.T) {
	wantAll(t, "P4.2: no lists", nil, nil, nil, true, api.OK)
	wantAll(t, "P4.2: empty lists", terms(), nil, nil, true, api.OK)
	wantAll(t, "P4.2: pairs that are the same", terms(x(0), fun(1)), terms(x(0), fun(1)), nil, true, api.OK)
	wantAll(t, "P4.2: a row", terms(x(0), x(1)), terms(x(1), fun(1)), binds(bind(0, fun(1)), bind(1, fun(1))), true, api.OK)
	wantAll(t, "P4.2: no unifier in the last", terms(x(0), x(1), fun(1)), terms(x(1), fun(1), fun(2)), nil, false, api.OK)
	wantAll(t, "P4.2: no unifier in the first", terms(fun(1), x(1), x(0)), terms(fun(2), fun(1), x(1)), nil, false, api.OK)
	wantAll(t, "P4.2: none of all, one of each", terms(x(0), x(0)), terms(fun(1), fun(2)), nil, false, api.OK)
	for _, c := range mguCases() {
		wantAll(t, "P4.2: "+c.name, terms(c.a), terms(c.b), c.want, c.ok, api.OK)
		if len(c.a.Args) == len(c.b.Args) && c.a.Head == c.b.Head && c.a.Head >= 0 {
			wantAll(t, "P4.2: the Args of: "+c.name, c.a.Args, c.b.Args, c.want, c.ok, api.OK)
		}
	}
	long := slices.Repeat(terms(x(1), fun(3, x(2))), 500)
	wantAll(t, "P4.2: a long list", long, slices.Repeat(terms(x(0), fun(3, x(1))), 500), binds(bind(1, x(0)), bind(2, x(0))), true, api.OK)
}

func TestAllWrongP4_2(t *testing.T) {
	for _, c := range [][2][]api.Term{
		{terms(x(0)), nil},
		{nil, terms(x(0))},
		{terms(x(0), x(1)), terms(x(0))},
		{terms(fun(1), x(1)), terms(fun(2))},
		{terms(x(0)), terms(x(0), fun(1), fun(1))},
	} {
		wantAll(t, "P4.2: other lengths", c[0], c[1], nil, false, api.ErrArg)
	}
	for i, w := range wrongTerms() {
		for _, right := range [][]api.Term{terms(x(0), x(1), x(2)), terms(fun(1), x(1), fun(3, x(1)))} {
			for k := range right {
				one := slices.Clone(right)
				one[k] = w
				for _, p := range [][2][]api.Term{{one, right}, {right, one}, {one, one}, {one, right[:2]}, {nil, one}} {
					// Not told by wantAll: a wrong term may be too great to print.
					if s, ok, err := All(p[0], p[1]); len(s) != 0 || ok || err != api.ErrArg {
						t.Fatalf("P4.2: wrong term %d as element %d: %v, %d", i, k, ok, err)
					}
				}
			}
		}
		// A pair that has no unifier does not hide a wrong term behind it.
		if s, ok, err := All(terms(fun(1), x(0)), terms(fun(2), w)); len(s) != 0 || ok || err != api.ErrArg {
			t.Fatalf("P4.2: wrong term %d behind a pair without a unifier: %v, %d", i, ok, err)
		}
	}
}

func TestAllManyP4_2(t *testing.T) {
	found, none := 0, 0
	for _, seed := range scattered(60000) {
		a, b := grownPairs(seed)
		want, wantOK, wantErr := plainAll(a, b)
		s, ok, err := All(a, b)
		if !sameSubst(s, want) || ok != wantOK || err != wantErr {
			t.Fatalf("P4.2: %v, %v: %v, %v, %d, not %v, %v, %d", a, b, s, ok, err, want, wantOK, wantErr)
		}
		if ok && len(s) > 0 {
			found++
		}
		if !ok && err == api.OK {
			none++
		}
	}
	if found < 1000 || none < 1000 {
		t.Errorf("P4.2: the samples are one-sided: %d, %d", found, none)
	}
}

// tower binds each of n variables from first on to a tree of two of the one before it, so that the last one's tree has 2^n leaves.
func tower(first, n int) ([]api.Term, []api.Term) {
	var a, b []api.Term
	for i := first; i < first+n; i++ {
		a = append(a, x(i+1))
		b = append(b, fun(4, x(i), x(i)))
	}
	return a, b
}

func TestAllGrowsP4_2(t *testing.T) {
	for n := range 14 {
		a, b := tower(0, n)
		want, wantOK, wantErr := plainAll(a, b)
		wantAll(t, "P4.2: a tower", a, b, want, wantOK, wantErr)
		slices.Reverse(a)
		slices.Reverse(b)
		wantAll(t, "P4.2: a tower, from its top", a, b, want, wantOK, wantErr)
	}
	a, b := tower(0, 255)
	wantAll(t, "P4.2: a tower of all variables", a, b, nil, false, api.ErrLong)
	// From x255 down to x0, so that the first binding is the greatest: its size is more than an int holds.
	var c, d []api.Term
	for i := range 255 {
		c, d = append(c, x(i)), append(d, fun(4, x(i+1), x(i+1)))
		if i >= 7 {
			wantAll(t, "P4.2: a tower upside down", c, d, nil, false, api.ErrLong)
		}
	}
	grow := terms(x(0), x(1))
	wantAll(t, "P4.2: size 400", grow, terms(broad(399, x(1)), fun(3, x(2))), binds(bind(0, broad(399, fun(3, x(2)))), bind(1, fun(3, x(2)))), true, api.OK)
	wantAll(t, "P4.2: size 401", grow, terms(broad(400, x(1)), fun(3, x(2))), nil, false, api.ErrLong)
	wantAll(t, "P4.2: a tower in itself", append(slices.Clone(a), x(0)), append(slices.Clone(b), fun(3, x(255))), nil, false, api.OK)
}

// Two towers of the same shape have to be compared level by level, not leaf by leaf.
func TestTwoTowersP4_2(t *testing.T) {
	a, b := tower(0, 127)
	c, d := tower(128, 127)
	a, b = append(a, c...), append(b, d...)
	wantAll(t, "P4.2: two towers", append(slices.Clone(a), x(255)), append(slices.Clone(b), x(127)), nil, false, api.ErrLong)
	wantAll(t, "P4.2: two towers with other leaves", append(slices.Clone(a), x(0), x(128), x(127)), append(slices.Clone(b), fun(1), fun(2), x(255)), nil, false, api.OK)
	wantAll(t, "P4.2: one in the other", append(slices.Clone(a), x(127), x(255)), append(slices.Clone(b), x(255), x(250)), nil, false, api.OK)
	wantAll(t, "P4.2: two towers, the one ahead", append(slices.Clone(a), x(127), x(255)), append(slices.Clone(b), x(254), x(255)), nil, false, api.ErrLong)
}

// The variables of one tower stand on the odd levels, those of the other on the even ones: they never meet one another.
func TestTowersThatNeverMeetP4_2(t *testing.T) {
	var a, b []api.Term
	for i := range 100 {
		a = append(a, x(i+1), x(i+151))
		b = append(b, doubled(2, x(i)), doubled(2, x(i+150)))
	}
	wantAll(t, "P4.2: never meeting", append(slices.Clone(a), x(100)), append(slices.Clone(b), fun(4, x(249), x(249))), nil, false, api.ErrLong)
	wantAll(t, "P4.2: never meeting, other leaves", append(slices.Clone(a), x(100), x(150)), append(slices.Clone(b), fun(4, x(249), x(249)), fun(1)), nil, false, api.OK)
	a, b = a[:2*3], b[:2*3]
	a, b = append(a, x(3)), append(b, fun(4, x(152), x(152)))
	want, wantOK, wantErr := plainAll(a, b)
	wantAll(t, "P4.2: never meeting, few", a, b, want, wantOK, wantErr)
	if wantErr != api.OK || !wantOK {
		t.Errorf("P4.2: the few have a unifier: %v, %d", wantOK, wantErr)
	}
}

// A way down of more than 10000 levels.
func TestAllDeepP4_2(t *testing.T) {
	var a, b []api.Term
	for i := range 255 {
		a = append(a, x(i+1))
		b = append(b, chain(39, x(i)))
	}
	wantAll(t, "P4.2: long chains", a, b, nil, false, api.ErrDeep)
	wantAll(t, "P4.2: long chains in a round", append(a, x(0)), append(b, fun(3, x(255))), nil, false, api.OK)
}

// someSubsts are all substitutions of three variables by a few terms.
func someSubsts() [][]api.Bind {
	few := []api.Term{x(0), x(1), x(2), x(3), fun(1), fun(2), fun(3, x(0)), fun(3, x(3)), fun(3, fun(1)), fun(4, x(1), fun(1)), fun(4, x(3), x(3))}
	all := [][]api.Bind{nil}
	for v := range 3 {
		var next [][]api.Bind
		for _, s := range all {
			for _, to := range few {
				if term.Same(to, x(v)) {
					next = append(next, s)
				} else {
					next = append(next, append(slices.Clone(s), bind(v, to)))
				}
			}
		}
		all = next
	}
	return all
}

func TestUnifierP4_3(t *testing.T) {
	all := samples()
	for _, a := range all {
		for _, b := range all {
			s, ok, err := Mgu(a, b)
			if err != api.OK {
				t.Fatalf("P4.3: %v, %v: %d", a, b, err)
			}
			if _, other, _ := Mgu(b, a); other != ok {
				t.Fatalf("P4.3: %v, %v: %v one way, %v the other", a, b, ok, other)
			}
			if !ok {
				continue
			}
			p, errP := subst.Apply(s, a)
			q, errQ := subst.Apply(s, b)
			twice, errTwice := subst.Then(s, s)
			if errP != api.OK || errQ != api.OK || errTwice != api.OK || !term.Same(p, q) || !sameSubst(twice, s) {
				t.Fatalf("P4.3: %v, %v by %v: %v, %v; twice: %v", a, b, s, p, q, twice)
			}
		}
	}
}

func TestMostGeneralP4_3(t *testing.T) {
	tried, made := someSubsts(), 0
	all := samples()
	for i, a := range all {
		// Not all pairs: each is held against more than 1000 substitutions.
		for k := i % 7; k < len(all); k += 7 {
			b := all[k]
			s, ok, _ := Mgu(a, b)
			for _, u := range tried {
				if !term.Same(plainApply(u, a), plainApply(u, b)) {
					continue
				}
				made++
				if !ok {
					t.Fatalf("P4.3: %v, %v: %v makes them the same", a, b, u)
				}
				if then, err := subst.Then(s, u); err != api.OK || !sameSubst(then, u) {
					t.Fatalf("P4.3: %v, %v: %v is not of %v", a, b, u, s)
				}
			}
		}
	}
	if made < 1000 {
		t.Errorf("P4.3: only %d tried", made)
	}
}

func TestManyAtOnceP4_3(t *testing.T) {
	for _, seed := range scattered(20000) {
		a, b := grownPairs(seed)
		s, ok, err := All(a, b)
		if _, other, otherErr := All(b, a); other != ok || otherErr != err {
			t.Fatalf("P4.3: %v, %v: %v, %d one way, %v, %d the other", a, b, ok, err, other, otherErr)
		}
		if !ok {
			continue
		}
		for i := range a {
			if !term.Same(plainApply(s, a[i]), plainApply(s, b[i])) {
				t.Fatalf("P4.3: %v, %v by %v", a, b, s)
			}
		}
		if subst.Check(s) != api.OK || !sameSubst(plainThen(s, s), s) {
			t.Fatalf("P4.3: %v, %v: %v", a, b, s)
		}
	}
}

// spoil writes to every place of a term's memory, and appends within the capacity of its lists.
func spoil(t *api.Term) {
	t.Head += 1000
	for i := range t.Args {
		spoil(&t.Args[i])
	}
	_ = append(t.Args, fun(77))
}

func copied(list []api.Term) []api.Term {
	var c []api.Term
	for _, t := range list {
		c = append(c, term.Copy(t))
	}
	return c
}

// Whoever writes to an answer spoils neither what was handed in nor another part of the answer.
func TestApartR2(t *testing.T) {
	for _, seed := range scattered(5000) {
		a, b := grownPairs(seed)
		a, b = append(a, fun(4, x(7), x(8))), append(b, fun(4, fun(4, x(0), x(0)), x(7)))
		keptA, keptB := copied(a), copied(b)
		want, _, _ := plainAll(keptA, keptB)
		s, _, _ := All(a, b)
		if !sameSubst(s, want) {
			t.Fatalf("R2: %v, %v: %v", a, b, s)
		}
		for i := range s {
			if !term.Same(s[i].To, want[i].To) {
				t.Fatalf("R2: two parts of the unifier of %v, %v share memory", a, b)
			}
			for k := range s[i].To.Args {
				if !term.Same(s[i].To.Args[k], want[i].To.Args[k]) {
					t.Fatalf("R2: two parts of one term for %v, %v share memory", a, b)
				}
				spoil(&s[i].To.Args[k])
			}
			spoil(&s[i].To)
		}
		if !slices.EqualFunc(a, keptA, term.Same) || !slices.EqualFunc(b, keptB, term.Same) {
			t.Fatalf("R2: %v or %v was changed", keptA, keptB)
		}
	}
}
