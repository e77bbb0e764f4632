package match

import (
	"math"
	"slices"
	"testing"

	"elenchus/api"
	"elenchus/subst"
	"elenchus/term"
	"elenchus/unify"
)

func fun(head int, args ...api.Term) api.Term { return api.Term{Head: head, Args: args} }

func x(n int, args ...api.Term) api.Term { return api.Term{Head: -1 - n, Args: args} }

func bind(v int, to api.Term) api.Bind { return api.Bind{Var: v, To: to} }

func binds(list ...api.Bind) []api.Bind { return list }

func terms(list ...api.Term) []api.Term { return list }

// chain is f(f(.. (end))), of n levels above the end.
func chain(n int, end api.Term) api.Term {
	for range n {
		end = fun(3, end)
	}
	return end
}

// doubled is a full binary tree of n levels above the end, its lists shared on every level.
func doubled(n int, end api.Term) api.Term {
	for range n {
		end = fun(4, end, end)
	}
	return end
}

// broad is a flat term of size n, with the end in its first leaf and no more than 8 Args anywhere.
func broad(n int, end api.Term) api.Term {
	t := broadFrom(0, n)
	spot := &t
	for len(spot.Args) > 0 {
		spot = &spot.Args[0]
	}
	*spot = end
	return t
}

// broadFrom is the ith of n subterms that are counted level by level.
func broadFrom(i, n int) api.Term {
	t := fun(6)
	for k := 8*i + 1; k <= 8*i+8 && k < n; k++ {
		t.Args = append(t.Args, broadFrom(k, n))
	}
	return t
}

// manyVars holds n variables from first on, up or down by step, in rows of rows of 8.
func manyVars(first, n, step int) api.Term {
	t := fun(7)
	for i := range n {
		if i%64 == 0 {
			t.Args = append(t.Args, fun(7))
		}
		outer := &t.Args[len(t.Args)-1]
		if i%8 == 0 {
			outer.Args = append(outer.Args, fun(7))
		}
		inner := &outer.Args[len(outer.Args)-1]
		inner.Args = append(inner.Args, x(first+i*step))
	}
	return t
}

// endless holds itself.
func endless() api.Term {
	args := make([]api.Term, 1)
	args[0] = fun(3, args...)
	return args[0]
}

// wrongTerms are terms that are not valid, of every kind that layer 1 knows; those without measure stand last, so that a test that ends at its first fault does not go into them.
func wrongTerms() []api.Term {
	return terms(x(256), fun(1024), fun(2000), fun(math.MaxInt), fun(math.MinInt), x(0, fun(1)), fun(3, x(0, x(1))), fun(3, x(256)),
		fun(5, slices.Repeat(terms(fun(1)), 9)...), broad(401, x(0)), chain(40, x(0)), doubled(300, x(0)), endless())
}

// samples are all valid terms of size 4 or less over three variables and two Heads, and some of other kinds.
func samples() []api.Term {
	bySize := [][]api.Term{nil, terms(x(0), x(1), x(2), fun(1), fun(2)), nil, nil, nil}
	for n := 2; n <= 4; n++ {
		for _, a := range bySize[n-1] {
			bySize[n] = append(bySize[n], fun(3, a))
		}
		for first := 1; first < n-1; first++ {
			for _, a := range bySize[first] {
				for _, b := range bySize[n-1-first] {
					bySize[n] = append(bySize[n], fun(4, a, b))
				}
			}
		}
	}
	return append(slices.Concat(bySize...), fun(4, fun(4, x(0), x(1)), x(2)), fun(4, fun(4, x(2), x(0)), fun(4, x(0), x(1))), fun(4, x(0), fun(4, x(1), x(1))),
		fun(3), fun(4, x(0)), fun(4, x(2), x(1), x(0)), api.Term{}, api.Term{Head: 1, Args: terms()}, api.Term{Head: -2, Args: terms()}, x(255))
}

// grown is a term over six variables, its shape told by the digits of the seed; what is left of the seed comes back.
func grown(depth int, seed uint64) (api.Term, uint64) {
	digit := seed % 11
	seed /= 11
	if digit < 5 || depth == 0 {
		return x(int(digit) % 6), seed
	}
	t := fun(int(digit))
	for range digit % 4 {
		var arg api.Term
		arg, seed = grown(depth-1, seed)
		t.Args = append(t.Args, arg)
	}
	return t, seed
}

// scattered is a row of seeds, the same in every run.
func scattered(n int) []uint64 {
	seeds := make([]uint64, n)
	state := uint64(1)
	for i := range seeds {
		for range 2 {
			state = state*6364136223846793005 + 1442695040888963407
			seeds[i] = seeds[i]<<32 ^ state>>21
		}
	}
	return seeds
}

// grownList is some terms; another salt makes others of the same seed.
func grownList(seed uint64, salt uint64) []api.Term {
	var list []api.Term
	for _, s := range scattered(int(1 + seed%4)) {
		t, _ := grown(3, (s+salt)*(seed|1)>>1)
		list = append(list, t)
	}
	return list
}

// grownSubst binds the variables from 0 to 5, but for those that the seed leaves alone.
func grownSubst(seed uint64) []api.Bind {
	var s []api.Bind
	for v, k := range scattered(6) {
		if to, _ := grown(2, k*(seed|1)>>1); !term.Same(to, x(v)) {
			s = append(s, bind(v, to))
		}
	}
	return s
}

// The document's words, to hold the package against by other ways than its own.

func plainApply(s []api.Bind, t api.Term) api.Term {
	if t.Head < 0 {
		return subst.Of(s, -1-t.Head)
	}
	c := api.Term{Head: t.Head}
	for _, a := range t.Args {
		c.Args = append(c.Args, plainApply(s, a))
	}
	return c
}

func plainApplyAll(s []api.Bind, l []api.Term) []api.Term {
	var c []api.Term
	for _, t := range l {
		c = append(c, plainApply(s, t))
	}
	return c
}

// iced stands in for the variable 0 taken as a constant, iced+1 for the variable 1, and so on.
const iced = 500

func freeze(t api.Term) api.Term {
	if t.Head < 0 {
		return fun(iced - 1 - t.Head)
	}
	c := api.Term{Head: t.Head}
	for _, a := range t.Args {
		c.Args = append(c.Args, freeze(a))
	}
	return c
}

func thaw(t api.Term) api.Term {
	if t.Head >= iced {
		return x(t.Head - iced)
	}
	c := api.Term{Head: t.Head}
	for _, a := range t.Args {
		c.Args = append(c.Args, thaw(a))
	}
	return c
}

// plainAll unifies with terms whose variables are constants.
func plainAll(p, t []api.Term) ([]api.Bind, bool, api.Errno) {
	var frozen []api.Term
	for _, a := range t {
		frozen = append(frozen, freeze(a))
	}
	found, ok, err := unify.All(p, frozen)
	var s []api.Bind
	for _, b := range found {
		if to := thaw(b.To); !term.Same(to, x(b.Var)) {
			s = append(s, bind(b.Var, to))
		}
	}
	return s, ok, err
}

// plainNorm looks for all variables first, and replaces them then.
func plainNorm(l []api.Term) []api.Term {
	var s []api.Bind
	for n, v := range term.Vars(fun(0, l...)) {
		s = append(s, bind(v, x(n)))
	}
	return plainApplyAll(s, l)
}

func sameSubst(a, b []api.Bind) bool {
	return slices.EqualFunc(a, b, func(p, q api.Bind) bool { return p.Var == q.Var && term.Same(p.To, q.To) })
}

func sameList(a, b []api.Term) bool { return slices.EqualFunc(a, b, term.Same) }

// wantAll holds one call of All against what it has to answer.
func wantAll(t *testing.T, name string, p, to []api.Term, want []api.Bind, wantOK bool) {
	t.Helper()
	if s, ok, err := All(p, to); !sameSubst(s, want) || ok != wantOK || err != api.OK {
		t.Errorf("%s: %v, %v, %d, not %v, %v", name, s, ok, err, want, wantOK)
	}
}

type matchCase struct {
	name string
	p, t api.Term
	want []api.Bind
	ok   bool
}

// matchCases are ordinary inputs and edges; no bindings without ok: there is no matcher.
func matchCases() []matchCase {
	return []matchCase{
		{"the first example", fun(4, x(0), x(1)), fun(4, x(1), fun(1)), binds(bind(0, x(1)), bind(1, fun(1))), true},
		{"the second example", fun(4, x(0), x(0)), fun(4, fun(1), fun(2)), nil, false},
		{"zero terms", api.Term{}, api.Term{}, nil, true},
		{"a variable with itself", x(7), x(7), nil, true},
		{"a variable with an empty list", api.Term{Head: -8, Args: terms()}, x(7), nil, true},
		{"a variable to one with an empty list", x(7), api.Term{Head: -8, Args: terms()}, nil, true},
		{"symbols without Args and with an empty list", fun(1), api.Term{Head: 1, Args: terms()}, nil, true},
		{"a lesser variable to a greater one", x(0), x(1), binds(bind(0, x(1))), true},
		{"a greater variable to a lesser one", x(1), x(0), binds(bind(1, x(0))), true},
		{"the greatest variable", x(255), x(0), binds(bind(255, x(0))), true},
		{"to the greatest variable", x(0), x(255), binds(bind(0, x(255))), true},
		{"symbols are no variables", fun(4, x(0), fun(0)), fun(4, fun(0), fun(0)), binds(bind(0, fun(0))), true},
		{"to the greatest symbol", x(0), fun(1023), binds(bind(0, fun(1023))), true},
		{"to a term that contains it", x(0), fun(3, x(0)), binds(bind(0, fun(3, x(0)))), true},
		{"to a deep term that contains it", x(0), chain(39, x(0)), binds(bind(0, chain(39, x(0)))), true},
		{"to a long term that contains it", x(0), broad(400, x(0)), binds(bind(0, broad(400, x(0)))), true},
		{"the term's variables are not bound", fun(1), x(0), nil, false},
		{"the term's variables are not bound, inside", fun(3, fun(1)), fun(3, x(0)), nil, false},
		{"exchanged", fun(4, x(0), x(1)), fun(4, x(1), x(0)), binds(bind(0, x(1)), bind(1, x(0))), true},
		{"in a round", fun(5, x(0), x(1), x(2)), fun(5, x(1), x(2), x(0)), binds(bind(0, x(1)), bind(1, x(2)), bind(2, x(0))), true},
		{"two to one", fun(4, x(0), x(1)), fun(4, x(2), x(2)), binds(bind(0, x(2)), bind(1, x(2))), true},
		{"one to two", fun(4, x(0), x(0)), fun(4, x(0), x(1)), nil, false},
		{"one to two, the other way", fun(4, x(0), x(0)), fun(4, x(1), x(0)), nil, false},
		{"one stays as it is", fun(4, x(0), x(1)), fun(4, x(0), fun(1)), binds(bind(1, fun(1))), true},
		{"all stay as they are", fun(4, x(0), fun(4, x(1), x(0))), fun(4, x(0), fun(4, x(1), x(0))), nil, true},
		{"stays as it is, and then does not", fun(4, x(0), x(0)), fun(4, x(0), fun(1)), nil, false},
		{"does not stay as it is, and then does", fun(4, x(0), x(0)), fun(4, fun(1), x(0)), nil, false},
		{"does not grow a second time", fun(4, x(0), x(0)), fun(4, fun(3, x(0)), fun(3, fun(3, x(0)))), nil, false},
		{"replacements are not replaced again", fun(5, x(0), x(1), x(0)), fun(5, x(1), fun(1), fun(1)), nil, false},
		{"one way twice", fun(4, x(0), fun(3, x(0))), fun(4, fun(3, x(1)), fun(3, fun(3, x(1)))), binds(bind(0, fun(3, x(1)))), true},
		{"other ways deep inside", fun(4, x(0), x(0)), fun(4, chain(20, fun(1)), chain(20, fun(2))), nil, false},
		{"other symbols", fun(1), fun(2), nil, false},
		{"other symbols behind a binding", fun(4, x(0), fun(1)), fun(4, fun(2), fun(2)), nil, false},
		{"more Args in the term", fun(4, x(0)), fun(4, fun(1), fun(2)), nil, false},
		{"more Args in the pattern", fun(4, x(0), x(1)), fun(4, fun(1)), nil, false},
		{"no Args in the pattern", fun(4), fun(4, fun(1)), nil, false},
		{"no Args in the term", fun(4, x(0)), fun(4), nil, false},
		{"the pattern is deeper", fun(3, fun(3, x(0))), fun(3, fun(1)), nil, false},
		{"in order, whatever comes first", fun(5, x(9), x(4), x(255), x(0)), fun(5, fun(1), fun(2), fun(3), x(4)),
			binds(bind(0, x(4)), bind(4, fun(2)), bind(9, fun(1)), bind(255, fun(3))), true},
		{"all variables, but the first, one down", manyVars(1, 255, 1), manyVars(0, 255, 1), shifted(1, 255, -1), true},
		{"all variables in the opposite order", manyVars(0, 256, 1), manyVars(255, 256, -1), opposite(), true},
	}
}

// shifted binds n variables from first on to others.
func shifted(first, n, by int) []api.Bind {
	var s []api.Bind
	for v := first; v < first+n; v++ {
		s = append(s, bind(v, x(v+by)))
	}
	return s
}

func opposite() []api.Bind {
	var s []api.Bind
	for v := range 256 {
		s = append(s, bind(v, x(255-v)))
	}
	return s
}

func TestMatchP5_1(t *testing.T) {
	for _, c := range matchCases() {
		if s, ok, err := Match(c.p, c.t); !sameSubst(s, c.want) || ok != c.ok || err != api.OK {
			t.Errorf("P5.1: %s: %v, %v, %d", c.name, s, ok, err)
		}
	}
	all := samples()
	for _, p := range all {
		for _, a := range all {
			want, wantOK, _ := plainAll(terms(p), terms(a))
			if s, ok, err := Match(p, a); !sameSubst(s, want) || ok != wantOK || err != api.OK {
				t.Fatalf("P5.1: %v, %v: %v, %v, %d, not %v, %v", p, a, s, ok, err, want, wantOK)
			}
		}
	}
}

func TestMatchWrongP5_1(t *testing.T) {
	for i, w := range wrongTerms() {
		for _, a := range append(terms(w), samples()[:40]...) {
			for _, p := range [][2]api.Term{{a, w}, {w, a}} {
				if s, ok, err := Match(p[0], p[1]); len(s) != 0 || ok || err != api.ErrArg {
					t.Fatalf("P5.1: wrong term %d: %v, %d", i, ok, err)
				}
			}
		}
	}
}

func TestAllP5_1(t *testing.T) {
	wantAll(t, "P5.1: no lists", nil, nil, nil, true)
	wantAll(t, "P5.1: empty lists", terms(), nil, nil, true)
	wantAll(t, "P5.1: a row", terms(x(1), x(0)), terms(x(0), fun(1)), binds(bind(0, fun(1)), bind(1, x(0))), true)
	wantAll(t, "P5.1: one variable in two patterns", terms(x(0), fun(3, x(0))), terms(fun(1), fun(3, fun(1))), binds(bind(0, fun(1))), true)
	wantAll(t, "P5.1: two ways in two patterns", terms(x(0), fun(3, x(0))), terms(fun(1), fun(3, fun(2))), nil, false)
	wantAll(t, "P5.1: stays as it is, and then does not", terms(x(0), x(0)), terms(x(0), x(1)), nil, false)
	wantAll(t, "P5.1: no matcher in the last", terms(x(0), x(1), fun(1)), terms(x(1), fun(1), fun(2)), nil, false)
	wantAll(t, "P5.1: no matcher in the first", terms(fun(1), x(1), x(0)), terms(fun(2), fun(1), x(1)), nil, false)
	for _, c := range matchCases() {
		wantAll(t, "P5.1: "+c.name, terms(c.p), terms(c.t), c.want, c.ok)
		if len(c.p.Args) == len(c.t.Args) && c.p.Head == c.t.Head && c.p.Head >= 0 {
			wantAll(t, "P5.1: the Args of: "+c.name, c.p.Args, c.t.Args, c.want, c.ok)
		}
	}
	long := slices.Repeat(terms(x(1), fun(3, x(2))), 500)
	wantAll(t, "P5.1: a long list", long, slices.Repeat(terms(x(2), fun(3, x(1))), 500), binds(bind(1, x(2)), bind(2, x(1))), true)
	wantAll(t, "P5.1: a long list with another end", append(long, x(2)), append(slices.Repeat(terms(x(2), fun(3, x(1))), 500), x(2)), nil, false)
}

func TestAllWrongP5_1(t *testing.T) {
	for _, c := range [][2][]api.Term{
		{terms(x(0)), nil},
		{nil, terms(x(0))},
		{terms(x(0), x(1)), terms(x(0))},
		{terms(x(0)), terms(x(0), x(1))},
		{terms(fun(1), x(1)), terms(fun(2))},
		{terms(fun(1)), terms(fun(2), fun(1), fun(1))},
	} {
		if s, ok, err := All(c[0], c[1]); len(s) != 0 || ok || err != api.ErrArg {
			t.Errorf("P5.1: other lengths, %d and %d: %v, %d", len(c[0]), len(c[1]), ok, err)
		}
	}
	for i, w := range wrongTerms() {
		for _, right := range [][]api.Term{terms(x(0), x(1), x(2)), terms(fun(1), x(1), fun(3, x(1)))} {
			for k := range right {
				one := slices.Clone(right)
				one[k] = w
				for _, p := range [][2][]api.Term{{one, right}, {right, one}, {one, one}, {one, right[:2]}, {nil, one}} {
					if s, ok, err := All(p[0], p[1]); len(s) != 0 || ok || err != api.ErrArg {
						t.Fatalf("P5.1: wrong term %d as element %d: %v, %d", i, k, ok, err)
					}
				}
			}
		}
		// A pair that has no matcher does not hide a wrong term behind it.
		for _, p := range [][2]api.Term{{x(0), w}, {w, x(0)}} {
			if s, ok, err := All(terms(fun(1), p[0]), terms(fun(2), p[1])); len(s) != 0 || ok || err != api.ErrArg {
				t.Fatalf("P5.1: wrong term %d behind a pair without a matcher: %v, %d", i, ok, err)
			}
		}
	}
}

func TestAllManyP5_1(t *testing.T) {
	found, none := 0, 0
	for _, seed := range scattered(40000) {
		p := grownList(seed, 0)
		to := plainApplyAll(grownSubst(seed), p)
		if seed%3 == 0 {
			to = grownList(seed, 1)
		}
		if seed%7 == 0 {
			p, to = to, p
		}
		want, wantOK, wantErr := plainAll(p, to)
		s, ok, err := All(p, to)
		if !sameSubst(s, want) || ok != wantOK || err != wantErr {
			t.Fatalf("P5.1: %v, %v: %v, %v, %d, not %v, %v", p, to, s, ok, err, want, wantOK)
		}
		if ok && len(s) > 1 {
			found++
		}
		if !ok {
			none++
		}
	}
	if found < 1000 || none < 1000 {
		t.Errorf("P5.1: the samples are one-sided: %d, %d", found, none)
	}
}

func TestVariantP5_2(t *testing.T) {
	for _, c := range []struct {
		name string
		a, b api.Term
		want bool
	}{
		{"zero terms", api.Term{}, api.Term{}, true},
		{"variables", x(0), x(255), true},
		{"a variable and itself", x(3), x(3), true},
		{"an empty list", fun(1), api.Term{Head: 1, Args: terms()}, true},
		{"exchanged", fun(4, x(0), x(1)), fun(4, x(1), x(0)), true},
		{"in a round", fun(5, x(0), x(1), x(2)), fun(5, x(1), x(2), x(0)), true},
		{"one twice", fun(4, x(0), x(0)), fun(4, x(1), x(1)), true},
		{"one and two", fun(4, x(0), x(0)), fun(4, x(0), x(1)), false},
		{"one and two others", fun(4, x(2), x(2)), fun(4, x(0), x(1)), false},
		{"another pairing", fun(5, x(0), x(1), x(0)), fun(5, x(0), x(1), x(1)), false},
		{"a variable and a symbol", fun(3, x(1)), fun(3, fun(1)), false},
		{"a variable and a term with it", x(0), fun(3, x(0)), false},
		{"other symbols", fun(1), fun(2), false},
		{"other numbers of Args", fun(4, x(0)), fun(4, x(0), x(1)), false},
		{"all variables", manyVars(0, 256, 1), manyVars(255, 256, -1), true},
		{"all variables, and one less", manyVars(0, 255, 1), manyVars(0, 256, 1), false},
		{"deep", chain(39, x(0)), chain(39, x(1)), true},
		{"long", broad(400, x(0)), broad(400, x(1)), true},
	} {
		got, err := Variant(c.a, c.b)
		back, errBack := Variant(c.b, c.a)
		if got != c.want || back != c.want || err != api.OK || errBack != api.OK {
			t.Errorf("P5.2: %s: %v, %d, and back %v, %d", c.name, got, err, back, errBack)
		}
	}
	all := samples()
	for _, a := range all {
		for _, b := range all {
			_, forth, _ := plainAll(terms(a), terms(b))
			_, back, _ := plainAll(terms(b), terms(a))
			if got, err := Variant(a, b); got != (forth && back) || err != api.OK {
				t.Fatalf("P5.2: %v, %v: %v, %d", a, b, got, err)
			}
		}
	}
}

func TestVariantWrongP5_2(t *testing.T) {
	for i, w := range wrongTerms() {
		for _, a := range append(terms(w), samples()[:40]...) {
			for _, p := range [][2]api.Term{{a, w}, {w, a}} {
				if got, err := Variant(p[0], p[1]); got || err != api.ErrArg {
					t.Fatalf("P5.2: wrong term %d: %v, %d", i, got, err)
				}
			}
		}
	}
}

func TestNormP5_3(t *testing.T) {
	for _, c := range []struct {
		name    string
		l, want []api.Term
	}{
		{"nothing", nil, nil},
		{"an empty list", terms(), nil},
		{"zero terms", terms(api.Term{}, api.Term{}), terms(api.Term{}, api.Term{})},
		{"no variables", terms(fun(4, fun(1), fun(2)), fun(1)), terms(fun(4, fun(1), fun(2)), fun(1))},
		{"a variable", terms(x(255)), terms(x(0))},
		{"a variable with an empty list", terms(api.Term{Head: -9, Args: terms()}), terms(x(0))},
		{"from left to right", terms(fun(5, x(7), x(0), x(3))), terms(fun(5, x(0), x(1), x(2)))},
		{"one twice", terms(fun(5, x(7), x(0), x(7))), terms(fun(5, x(0), x(1), x(0)))},
		{"one that becomes another's number", terms(fun(5, x(1), x(0), x(1), x(0))), terms(fun(5, x(0), x(1), x(0), x(1)))},
		{"a deeper one first", terms(fun(4, fun(3, fun(3, x(5))), x(4))), terms(fun(4, fun(3, fun(3, x(0))), x(1)))},
		{"a deeper one last", terms(fun(4, x(5), fun(4, x(4), x(5)))), terms(fun(4, x(0), fun(4, x(1), x(0))))},
		{"term by term", terms(fun(4, x(2), x(1)), fun(3, x(2)), x(0)), terms(fun(4, x(0), x(1)), fun(3, x(0)), x(2))},
		{"the first term ahead of all", terms(fun(3, x(9)), fun(4, x(8), x(9)), x(8)), terms(fun(3, x(0)), fun(4, x(1), x(0)), x(1))},
		{"all variables", terms(manyVars(255, 256, -1), x(0), x(255)), terms(manyVars(0, 256, 1), x(255), x(0))},
		{"depth 40", terms(chain(39, x(4))), terms(chain(39, x(0)))},
		{"size 400", terms(broad(400, x(4))), terms(broad(400, x(0)))},
		{"a long list", slices.Repeat(terms(x(4), fun(4, x(2), x(3))), 2000), slices.Repeat(terms(x(0), fun(4, x(1), x(2))), 2000)},
	} {
		if got, err := Norm(c.l); err != api.OK || !sameList(got, c.want) {
			t.Errorf("P5.3: %s: %d, %v", c.name, err, got)
		}
	}
	for _, a := range samples() {
		if got, err := Norm(terms(a)); err != api.OK || !sameList(got, plainNorm(terms(a))) {
			t.Fatalf("P5.3: %v: %v, %d", a, got, err)
		}
	}
	for _, seed := range scattered(20000) {
		l := grownList(seed, 2)
		if got, err := Norm(l); err != api.OK || !sameList(got, plainNorm(l)) {
			t.Fatalf("P5.3: %v: %v, %d", l, got, err)
		}
	}
}

func TestNormWrongP5_3(t *testing.T) {
	for i, w := range wrongTerms() {
		for _, l := range [][]api.Term{terms(w), terms(w, x(0)), terms(x(0), w), terms(x(0), w, fun(1)), terms(w, w)} {
			if got, err := Norm(l); len(got) != 0 || err != api.ErrArg {
				t.Fatalf("P5.3: wrong term %d: %d", i, err)
			}
		}
	}
}

func TestMatcherP5_4(t *testing.T) {
	all := samples()
	for _, p := range all {
		for _, a := range all {
			s, ok, err := Match(p, a)
			if err != api.OK || subst.Check(s) != api.OK {
				t.Fatalf("P5.4: %v, %v: %v, %d", p, a, s, err)
			}
			if !ok {
				continue
			}
			if got, err := subst.Apply(s, p); err != api.OK || !term.Same(got, a) {
				t.Fatalf("P5.4: %v becomes %v by %v, not %v", p, got, s, a)
			}
			for _, b := range s {
				if !slices.Contains(term.Vars(p), b.Var) {
					t.Fatalf("P5.4: %v, %v: %v binds what is not in the pattern", p, a, s)
				}
			}
		}
	}
}

// triedSubsts are all substitutions of three variables by a few terms.
func triedSubsts() [][]api.Bind {
	few := terms(x(0), x(1), x(2), x(3), fun(1), fun(2), fun(3, x(0)), fun(3, x(3)), fun(3, fun(1)), fun(4, x(1), fun(1)), fun(4, x(3), x(3)))
	all := [][]api.Bind{nil}
	for v := range 3 {
		var next [][]api.Bind
		for _, s := range all {
			for _, to := range few {
				if term.Same(to, x(v)) {
					next = append(next, s)
				} else {
					next = append(next, append(slices.Clone(s), bind(v, to)))
				}
			}
		}
		all = next
	}
	return all
}

// A term matches each of its instances, by what was put for its own variables and by nothing else.
func TestInstancesP5_4(t *testing.T) {
	tried := triedSubsts()
	for _, p := range samples() {
		vars := term.Vars(p)
		for _, s := range tried {
			var own []api.Bind
			for _, b := range s {
				if slices.Contains(vars, b.Var) {
					own = append(own, b)
				}
			}
			if got, ok, err := Match(p, plainApply(s, p)); !ok || err != api.OK || !sameSubst(got, own) {
				t.Fatalf("P5.4: %v and its instance by %v: %v, %v, %d", p, s, got, ok, err)
			}
		}
	}
}

func TestVariantsHaveOneNormP5_4(t *testing.T) {
	all, variants := samples(), 0
	for i, a := range all {
		normA, _ := Norm(terms(a))
		for k, b := range all {
			normB, _ := Norm(terms(b))
			variant, err := Variant(a, b)
			if err != api.OK || variant != sameList(normA, normB) {
				t.Fatalf("P5.4: %v, %v: %v, %d, by Norms %v and %v", a, b, variant, err, normA, normB)
			}
			if variant && i != k {
				variants++
			}
		}
		if ok, _ := Variant(a, normA[0]); !ok {
			t.Fatalf("P5.4: %v is no variant of its Norm %v", a, normA)
		}
	}
	if variants < 100 {
		t.Errorf("P5.4: only %d variants", variants)
	}
}

func TestNormOfNormP5_4(t *testing.T) {
	for _, seed := range scattered(5000) {
		l := grownList(seed, 3)
		once, err := Norm(l)
		twice, errTwice := Norm(once)
		if err != api.OK || errTwice != api.OK || !sameList(once, twice) {
			t.Fatalf("P5.4: %v: %v, and again %v", l, once, twice)
		}
	}
}

// spoil writes to every place of a term's memory, and appends within the capacity of its lists.
func spoil(t *api.Term) {
	t.Head += 1000
	for i := range t.Args {
		spoil(&t.Args[i])
	}
	_ = append(t.Args, fun(77))
}

func copied(list []api.Term) []api.Term {
	var c []api.Term
	for _, t := range list {
		c = append(c, term.Copy(t))
	}
	return c
}

// spoilParts spoils a term part by part, and reports whether each part was still as it should be when its turn came.
func spoilParts(t *api.Term, want api.Term) bool {
	for i := range t.Args {
		if !term.Same(t.Args[i], want.Args[i]) {
			return false
		}
		spoil(&t.Args[i])
	}
	spoil(t)
	return true
}

// Whoever writes to an answer spoils neither what was handed in nor another part of the answer.
func TestApartR2(t *testing.T) {
	for _, seed := range scattered(5000) {
		p := append(grownList(seed, 4), x(7), x(8), fun(3, x(7)))
		to := plainApplyAll(append(grownSubst(seed), bind(7, doubled(2, fun(3, x(0)))), bind(8, doubled(2, fun(3, x(0))))), p)
		// One list for two bindings, and one for two parts of each.
		to[len(to)-2] = to[len(to)-3]
		keptP, keptTo := copied(p), copied(to)
		s, _, _ := All(p, to)
		want, ok, _ := plainAll(keptP, keptTo)
		if !ok || !sameSubst(s, want) {
			t.Fatalf("R2: %v, %v: %v", p, to, s)
		}
		for i := range s {
			if !term.Same(s[i].To, want[i].To) || !spoilParts(&s[i].To, want[i].To) {
				t.Fatalf("R2: two parts of the matcher of %v, %v share memory", p, to)
			}
		}
		norm, _ := Norm(to)
		wantNorm := plainNorm(keptTo)
		for i := range norm {
			if !term.Same(norm[i], wantNorm[i]) || !spoilParts(&norm[i], wantNorm[i]) {
				t.Fatalf("R2: two parts of the Norm of %v share memory", keptTo)
			}
		}
		Variant(p[0], to[0])
		if !sameList(p, keptP) || !sameList(to, keptTo) {
			t.Fatalf("R2: %v or %v was changed", keptP, keptTo)
		}
	}
}
