package subst

import (
	"math"
	"slices"
	"testing"

	"elenchus/api"
	"elenchus/term"
)

func fun(head int, args ...api.Term) api.Term { return api.Term{Head: head, Args: args} }

func x(n int, args ...api.Term) api.Term { return api.Term{Head: -1 - n, Args: args} }

func bind(v int, to api.Term) api.Bind { return api.Bind{Var: v, To: to} }

func binds(list ...api.Bind) []api.Bind { return list }

// chain is f(f(.. (end))), of n levels above the end.
func chain(n int, end api.Term) api.Term {
	for range n {
		end = fun(3, end)
	}
	return end
}

// doubled is a full binary tree of n levels above the end, its lists shared on every level.
func doubled(n int, end api.Term) api.Term {
	for range n {
		end = fun(4, end, end)
	}
	return end
}

// broad is a flat term of size n, with the end in its first leaf and no more than 8 Args anywhere.
func broad(n int, end api.Term) api.Term {
	t := broadFrom(0, n)
	spot := &t
	for len(spot.Args) > 0 {
		spot = &spot.Args[0]
	}
	*spot = end
	return t
}

// broadFrom is the ith of n subterms that are counted level by level.
func broadFrom(i, n int) api.Term {
	t := fun(6)
	for k := 8*i + 1; k <= 8*i+8 && k < n; k++ {
		t.Args = append(t.Args, broadFrom(k, n))
	}
	return t
}

// endless holds itself.
func endless() api.Term {
	args := make([]api.Term, 1)
	args[0] = fun(3, args...)
	return args[0]
}

// wrongTerms are terms that are not valid, of every kind that layer 1 knows; those without measure stand last, so that a test that ends at its first fault does not go into them.
func wrongTerms() []api.Term {
	return []api.Term{x(256), fun(1024), fun(math.MaxInt), fun(math.MinInt), x(0, fun(1)), fun(3, x(0, x(1))), fun(3, x(256)),
		fun(5, slices.Repeat([]api.Term{fun(1)}, 9)...), broad(401, x(0)), chain(40, x(0)), doubled(300, x(0)), endless()}
}

// wrongSubsts are lists of bindings that are not valid.
func wrongSubsts() [][]api.Bind {
	all := [][]api.Bind{
		binds(bind(-1, fun(1))),
		binds(bind(256, fun(1))),
		binds(bind(math.MinInt, fun(1))),
		binds(bind(math.MaxInt, fun(1))),
		binds(bind(1, fun(1)), bind(1, fun(1))),
		binds(bind(1, fun(1)), bind(1, fun(2))),
		binds(bind(1, fun(1)), bind(0, fun(1))),
		binds(bind(0, fun(1)), bind(2, fun(1)), bind(1, fun(1))),
		binds(bind(0, fun(1)), bind(255, fun(1)), bind(256, fun(1))),
		binds(bind(0, x(0))),
		binds(bind(255, x(255))),
		binds(bind(0, fun(1)), bind(3, x(3))),
		binds(bind(3, x(3)), bind(4, fun(1))),
		make([]api.Bind, 100000),
	}
	for _, w := range wrongTerms() {
		all = append(all, binds(bind(0, w)), binds(bind(0, fun(1)), bind(7, w)), binds(bind(0, w), bind(7, fun(1))))
	}
	return all
}

// samples are all valid terms of size 4 or less over three variables and two Heads, and some greater ones.
func samples() []api.Term {
	bySize := [][]api.Term{nil, {x(0), x(1), x(2), fun(1), fun(2)}, nil, nil, nil}
	for n := 2; n <= 4; n++ {
		for _, a := range bySize[n-1] {
			bySize[n] = append(bySize[n], fun(3, a))
		}
		for first := 1; first < n-1; first++ {
			for _, a := range bySize[first] {
				for _, b := range bySize[n-1-first] {
					bySize[n] = append(bySize[n], fun(4, a, b))
				}
			}
		}
	}
	return append(slices.Concat(bySize...), doubled(4, x(1)), chain(6, x(2)), fun(5, x(2), x(0), x(1), fun(4, x(0), x(2)), x(255), x(7)),
		fun(1023, x(254)), api.Term{Head: 2, Args: []api.Term{}})
}

// someSubsts are valid substitutions: all of two variables to a few terms, and some others.
func someSubsts() [][]api.Bind {
	terms := []api.Term{x(0), x(1), x(2), fun(1), fun(3, x(0)), fun(3, x(1)), fun(4, x(1), x(0))}
	all := [][]api.Bind{nil, {}}
	for _, a := range terms {
		for _, b := range terms {
			var s []api.Bind
			for v, to := range []api.Term{a, b} {
				if !term.Same(to, x(v)) {
					s = append(s, bind(v, to))
				}
			}
			all = append(all, s)
		}
	}
	return append(all, binds(bind(2, x(0))), binds(bind(2, fun(4, x(2), x(2)))), binds(bind(0, x(1)), bind(1, x(2)), bind(2, x(0))),
		binds(bind(1, x(255)), bind(255, fun(3, x(255)))), binds(bind(7, x(2)), bind(254, x(0))))
}

// The document's words, one by one, to hold the package against.

func plainOf(s []api.Bind, v int) api.Term {
	i := slices.IndexFunc(s, func(b api.Bind) bool { return b.Var == v })
	if i < 0 {
		return x(v)
	}
	return s[i].To
}

func plainApply(s []api.Bind, t api.Term) api.Term {
	if t.Head < 0 {
		return plainOf(s, -1-t.Head)
	}
	c := api.Term{Head: t.Head}
	for _, a := range t.Args {
		c.Args = append(c.Args, plainApply(s, a))
	}
	return c
}

// plainThen tries all variables that there are.
func plainThen(s, u []api.Bind) []api.Bind {
	var both []api.Bind
	for v := range api.MaxVar + 1 {
		if to := plainApply(u, plainOf(s, v)); !term.Same(to, x(v)) {
			both = append(both, bind(v, to))
		}
	}
	return both
}

func plainShift(t api.Term, by int) api.Term {
	if t.Head < 0 {
		return x(-1 - t.Head + by)
	}
	c := api.Term{Head: t.Head}
	for _, a := range t.Args {
		c.Args = append(c.Args, plainShift(a, by))
	}
	return c
}

func isZero(t api.Term) bool { return t.Head == 0 && t.Args == nil }

func sameSubst(a, b []api.Bind) bool {
	return slices.EqualFunc(a, b, func(p, q api.Bind) bool { return p.Var == q.Var && term.Same(p.To, q.To) })
}

func copied(s []api.Bind) []api.Bind {
	var c []api.Bind
	for _, b := range s {
		c = append(c, bind(b.Var, term.Copy(b.To)))
	}
	return c
}

func TestCheckP3_1(t *testing.T) {
	all := make([]api.Bind, 256)
	for v := range all {
		all[v] = bind(v, x(255-v))
	}
	for i, s := range append(someSubsts(), all,
		binds(bind(0, x(255)), bind(255, x(0))), binds(bind(0, fun(3, x(0)))), binds(bind(3, api.Term{})),
		binds(bind(0, broad(400, x(0)))), binds(bind(0, chain(39, x(0))))) {
		if got := Check(s); got != api.OK {
			t.Errorf("P3.1: valid, %d: %d", i, got)
		}
	}
	for i, s := range wrongSubsts() {
		if got := Check(s); got != api.ErrArg {
			t.Fatalf("P3.1: not valid, %d: %d", i, got)
		}
	}
}

func TestOfP3_1(t *testing.T) {
	twice := binds(bind(1, fun(2)), bind(0, fun(1)), bind(1, fun(7)), bind(-3, fun(5)), bind(300, x(300)), bind(4, x(0, fun(1))))
	for _, c := range []struct {
		name string
		s    []api.Bind
		v    int
		want api.Term
	}{
		{"no list", nil, 0, x(0)},
		{"an empty list", binds(), 7, x(7)},
		{"a binding", binds(bind(0, fun(3, x(1))), bind(1, x(0))), 0, fun(3, x(1))},
		{"the last binding", binds(bind(0, fun(3, x(1))), bind(1, x(0))), 1, x(0)},
		{"none", binds(bind(0, fun(3, x(1))), bind(1, x(0))), 2, x(2)},
		{"the first of two", twice, 1, fun(2)},
		{"behind a greater one", twice, 0, fun(1)},
		{"a number below 0", twice, -3, fun(5)},
		{"a number too great", twice, 300, x(300)},
		{"a term that is not valid", twice, 4, x(0, fun(1))},
		{"none of a number too great", twice, 1000, api.Term{Head: -1001}},
		{"none of the greatest number", twice, math.MaxInt, api.Term{Head: math.MinInt}},
	} {
		if got := Of(c.s, c.v); !term.Same(got, c.want) {
			t.Errorf("P3.1: %s: %v, not %v", c.name, got, c.want)
		}
	}
	for _, s := range someSubsts() {
		for v := range 300 {
			if got := Of(s, v); !term.Same(got, plainOf(s, v)) {
				t.Fatalf("P3.1: %d in %v: %v", v, s, got)
			}
		}
	}
}

func TestApplyP3_2(t *testing.T) {
	swap := binds(bind(0, x(1)), bind(1, x(0)))
	for _, c := range []struct {
		name string
		s    []api.Bind
		term api.Term
		want api.Term
	}{
		{"the example", binds(bind(0, fun(3, x(1))), bind(1, fun(1))), fun(4, x(0), x(1)), fun(4, fun(3, x(1)), fun(1))},
		{"a variable", binds(bind(0, fun(1))), x(0), fun(1)},
		{"another variable", binds(bind(0, fun(1))), x(1), x(1)},
		{"the zero term", binds(bind(0, fun(1))), api.Term{}, api.Term{}},
		{"not again", binds(bind(0, fun(3, x(0)))), fun(4, x(0), fun(3, x(0))), fun(4, fun(3, x(0)), fun(3, fun(3, x(0))))},
		{"all at once", swap, fun(4, x(0), fun(4, x(1), x(0))), fun(4, x(1), fun(4, x(0), x(1)))},
		{"the greatest variable", binds(bind(255, fun(2))), fun(3, x(255)), fun(3, fun(2))},
		{"symbols are no variables", binds(bind(1, fun(9)), bind(4, fun(9))), fun(4, fun(1), x(4)), fun(4, fun(1), fun(9))},
	} {
		if got, err := Apply(c.s, c.term); err != api.OK || !term.Same(got, c.want) {
			t.Errorf("P3.2: %s: %v, %d", c.name, got, err)
		}
	}
	for _, s := range someSubsts() {
		for _, a := range samples() {
			if got, err := Apply(s, a); err != api.OK || !term.Same(got, plainApply(s, a)) {
				t.Fatalf("P3.2: %v in %v: %v, %d", s, a, got, err)
			}
		}
	}
}

func TestApplyWrongP3_2(t *testing.T) {
	for i, s := range wrongSubsts() {
		for _, a := range []api.Term{fun(1), x(0), fun(4, x(7), x(0))} {
			if got, err := Apply(s, a); err != api.ErrArg || !isZero(got) {
				t.Fatalf("P3.2: substitution %d: %d", i, err)
			}
		}
		if got, err := Apply(s, broad(401, x(0))); err != api.ErrArg || !isZero(got) {
			t.Fatalf("P3.2: substitution %d, and a term too long: %d", i, err)
		}
	}
	for i, a := range wrongTerms() {
		for _, s := range [][]api.Bind{nil, binds(bind(0, fun(1))), binds(bind(256, fun(1)))} {
			if got, err := Apply(s, a); err != api.ErrArg || !isZero(got) {
				t.Fatalf("P3.2: term %d: %d", i, err)
			}
		}
	}
}

func TestApplyLimitsP3_2(t *testing.T) {
	for _, c := range []struct {
		name string
		s    []api.Bind
		term api.Term
		want api.Errno
	}{
		{"size 400", binds(bind(0, fun(3, x(0)))), broad(399, x(0)), api.OK},
		{"size 401", binds(bind(0, fun(3, x(0)))), broad(400, x(0)), api.ErrLong},
		{"size 400, all of it put", binds(bind(0, broad(400, x(1)))), x(0), api.OK},
		{"size 401, all but one put", binds(bind(0, broad(400, x(1)))), fun(3, x(0)), api.ErrLong},
		{"depth 40", binds(bind(0, chain(20, x(0)))), chain(19, x(0)), api.OK},
		{"depth 41", binds(bind(0, chain(20, x(0)))), chain(20, x(0)), api.ErrDeep},
		{"depth 41, by a variable no more", binds(bind(0, chain(39, fun(1)))), fun(4, x(1), x(0)), api.ErrDeep},
		{"long and deep", binds(bind(0, chain(39, x(0)))), doubled(6, x(0)), api.ErrLong},
		{"the most that there may be", binds(bind(0, broad(400, x(0)))), doubled(7, x(0)), api.ErrLong},
		{"too much for a variable that is not there", binds(bind(1, broad(400, x(0)))), broad(400, x(0)), api.OK},
	} {
		got, err := Apply(c.s, c.term)
		if err != c.want || err != api.OK && !isZero(got) || err == api.OK && !term.Same(got, plainApply(c.s, c.term)) {
			t.Errorf("P3.2: %s: %d, not %d", c.name, err, c.want)
		}
	}
}

func TestThenP3_3(t *testing.T) {
	s := binds(bind(0, fun(3, x(1))), bind(1, x(0)))
	for _, c := range []struct {
		name       string
		s, u, want []api.Bind
	}{
		{"nothing", nil, nil, nil},
		{"the first alone", s, nil, s},
		{"the second alone", nil, s, s},
		{"both, of other variables", s, binds(bind(2, fun(2))), append(copied(s), bind(2, fun(2)))},
		{"the second one's in order", binds(bind(1, fun(1)), bind(3, fun(1))), binds(bind(0, fun(2)), bind(2, fun(2)), bind(4, fun(2))),
			binds(bind(0, fun(2)), bind(1, fun(1)), bind(2, fun(2)), bind(3, fun(1)), bind(4, fun(2)))},
		{"into the first", s, binds(bind(1, fun(1)), bind(2, x(0))), binds(bind(0, fun(3, fun(1))), bind(1, x(0)), bind(2, x(0)))},
		{"the first one's bindings hold", binds(bind(0, fun(1))), binds(bind(0, fun(2))), binds(bind(0, fun(1)))},
		{"a variable itself", s, binds(bind(0, x(1))), binds(bind(0, fun(3, x(1))))},
		{"nothing is left", binds(bind(0, x(1)), bind(1, x(0))), binds(bind(0, x(1)), bind(1, x(0))), nil},
		{"not again", binds(bind(0, x(1))), binds(bind(1, fun(3, x(1)))), binds(bind(0, fun(3, x(1))), bind(1, fun(3, x(1))))},
		{"the greatest variable", binds(bind(255, x(254))), binds(bind(254, x(255))), binds(bind(254, x(255)))},
	} {
		if got, err := Then(c.s, c.u); err != api.OK || !sameSubst(got, c.want) {
			t.Errorf("P3.3: %s: %v, %d", c.name, got, err)
		}
	}
	for _, s := range someSubsts() {
		for _, u := range someSubsts() {
			got, err := Then(s, u)
			if err != api.OK || Check(got) != api.OK || !sameSubst(got, plainThen(s, u)) {
				t.Fatalf("P3.3: %v, then %v: %v, %d", s, u, got, err)
			}
		}
	}
}

func TestThenWrongP3_3(t *testing.T) {
	right := binds(bind(0, fun(1)), bind(2, x(0)))
	for i, s := range wrongSubsts() {
		for _, pair := range [][2][]api.Bind{{s, nil}, {nil, s}, {s, right}, {right, s}, {s, s}} {
			if got, err := Then(pair[0], pair[1]); err != api.ErrArg || len(got) != 0 {
				t.Fatalf("P3.3: %d: %v, %d", i, got, err)
			}
		}
	}
}

func TestThenLimitsP3_3(t *testing.T) {
	long, deep := broad(400, x(9)), chain(39, x(9))
	grow := binds(bind(9, fun(3, x(9))))
	for _, c := range []struct {
		name string
		s, u []api.Bind
		want api.Errno
	}{
		{"size 400", binds(bind(0, broad(399, x(9)))), grow, api.OK},
		{"size 401", binds(bind(0, long)), grow, api.ErrLong},
		{"depth 40", binds(bind(0, chain(38, x(9)))), grow, api.OK},
		{"depth 41", binds(bind(0, deep)), grow, api.ErrDeep},
		{"deep ahead of long", binds(bind(0, deep), bind(1, long)), grow, api.ErrDeep},
		{"long ahead of deep", binds(bind(0, long), bind(1, deep)), grow, api.ErrLong},
		{"right ones ahead of deep, long behind", binds(bind(0, x(1)), bind(1, x(9)), bind(7, deep), bind(8, long)), grow, api.ErrDeep},
		{"a variable itself, then long", binds(bind(0, x(9)), bind(1, broad(400, x(8)))), binds(bind(8, fun(3, x(8))), bind(9, x(0))), api.ErrLong},
		{"too much for a variable that is not there", binds(bind(0, long)), binds(bind(8, long)), api.OK},
		{"the most that there may be", binds(bind(0, doubled(7, x(9)))), binds(bind(9, broad(400, x(0)))), api.ErrLong},
	} {
		got, err := Then(c.s, c.u)
		if err != c.want || err != api.OK && len(got) != 0 || err == api.OK && !sameSubst(got, plainThen(c.s, c.u)) {
			t.Errorf("P3.3: %s: %d, not %d", c.name, err, c.want)
		}
	}
}

func TestShiftP3_4(t *testing.T) {
	for _, c := range []struct {
		name string
		term api.Term
		by   int
		want api.Term
		err  api.Errno
	}{
		{"an ordinary term", fun(4, x(1), fun(4, x(0), x(2))), 3, fun(4, x(4), fun(4, x(3), x(5))), api.OK},
		{"by 0", fun(4, x(1), fun(2)), 0, fun(4, x(1), fun(2)), api.OK},
		{"no variables", fun(4, fun(1), fun(2)), 255, fun(4, fun(1), fun(2)), api.OK},
		{"the zero term", api.Term{}, 255, api.Term{}, api.OK},
		{"up to 255, all of it", x(0), 255, x(255), api.OK},
		{"up to 255", fun(3, x(250)), 5, fun(3, x(255)), api.OK},
		{"up to 256", fun(3, x(250)), 6, api.Term{}, api.ErrArg},
		{"one of them up to 256", fun(4, x(0), x(1)), 255, api.Term{}, api.ErrArg},
		{"the greatest by the most", x(255), 255, api.Term{}, api.ErrArg},
		{"the greatest by 0", x(255), 0, x(255), api.OK},
		{"by -1", fun(3, x(7)), -1, api.Term{}, api.ErrArg},
		{"by 256", fun(1), 256, api.Term{}, api.ErrArg},
		{"by the least", x(0), math.MinInt, api.Term{}, api.ErrArg},
		{"by the greatest", x(0), math.MaxInt, api.Term{}, api.ErrArg},
		{"size 400", broad(400, x(0)), 1, broad(400, x(1)), api.OK},
		{"depth 40", chain(39, x(0)), 1, chain(39, x(1)), api.OK},
	} {
		got, err := Shift(c.term, c.by)
		if err != c.err || !term.Same(got, c.want) || err != api.OK && !isZero(got) {
			t.Errorf("P3.4: %s: %v, %d", c.name, got, err)
		}
	}
	for i, a := range wrongTerms() {
		for _, by := range []int{-1, 0, 1, 255, 256} {
			if got, err := Shift(a, by); err != api.ErrArg || !isZero(got) {
				t.Fatalf("P3.4: term %d by %d: %d", i, by, err)
			}
		}
	}
}

func TestShiftManyP3_4(t *testing.T) {
	for _, a := range samples() {
		for by := -2; by <= 257; by++ {
			want, wantErr := plainShift(a, by), api.OK
			if by < 0 || by > 255 || term.Check(want) != api.OK {
				want, wantErr = api.Term{}, api.ErrArg
			}
			if got, err := Shift(a, by); err != wantErr || !term.Same(got, want) {
				t.Fatalf("P3.4: %v by %d: %v, %d", a, by, got, err)
			}
		}
	}
}

func TestThenIsOneBehindTheOtherP3_5(t *testing.T) {
	for _, s := range someSubsts() {
		for _, u := range someSubsts() {
			both, err := Then(s, u)
			if err != api.OK {
				t.Fatalf("P3.5: %v, then %v: %d", s, u, err)
			}
			for _, a := range samples() {
				first, _ := Apply(s, a)
				want, wantErr := Apply(u, first)
				if got, err := Apply(both, a); err != wantErr || !term.Same(got, want) {
					t.Fatalf("P3.5: %v, then %v, in %v: %v, %d", s, u, a, got, err)
				}
			}
		}
	}
}

func TestThenIsAssociativeP3_5(t *testing.T) {
	for _, r := range someSubsts() {
		for _, s := range someSubsts() {
			left, _ := Then(r, s)
			for _, u := range someSubsts() {
				right, _ := Then(s, u)
				a, errA := Then(left, u)
				b, errB := Then(r, right)
				if errA != api.OK || errB != api.OK || !sameSubst(a, b) {
					t.Fatalf("P3.5: %v, %v, %v: %v, %d and %v, %d", r, s, u, a, errA, b, errB)
				}
			}
		}
	}
}

func TestNothingChangesP3_5(t *testing.T) {
	other := binds(bind(30, fun(1)), bind(31, chain(39, x(0))), bind(200, x(0)))
	for _, a := range append(samples(), broad(400, x(0)), chain(39, x(0))) {
		for _, s := range [][]api.Bind{nil, {}, other} {
			if got, err := Apply(s, a); err != api.OK || !term.Same(got, a) {
				t.Fatalf("P3.5: %v in %v: %v, %d", s, a, got, err)
			}
		}
	}
	for _, s := range someSubsts() {
		before, errBefore := Then(nil, s)
		behind, errBehind := Then(s, nil)
		if errBefore != api.OK || errBehind != api.OK || !sameSubst(before, s) || !sameSubst(behind, s) {
			t.Fatalf("P3.5: nothing before or behind %v: %v, %v", s, before, behind)
		}
	}
}

// Check of a list is over at its first fault, and Of does not go into terms: one far greater than its memory, or without end, is no harm.
func TestTheyEndR1(t *testing.T) {
	s := binds(bind(0, doubled(300, x(0))), bind(1, endless()))
	if got := Of(s, 0); got.Head != 4 || len(got.Args) != 2 {
		t.Errorf("R1: shared lists: %d", got.Head)
	}
	if got := Of(s, 1); got.Head != 3 || len(got.Args) != 1 {
		t.Errorf("R1: without end: %d", got.Head)
	}
	for _, v := range []int{math.MinInt, -1, math.MaxInt} {
		if got := Of(s, v); got.Head != -1-v || got.Args != nil {
			t.Errorf("R1: variable %d: %v", v, got)
		}
	}
}

// spoil writes to every place of a term's memory, and appends within the capacity of its lists.
func spoil(t *api.Term) {
	t.Head += 1000
	for i := range t.Args {
		spoil(&t.Args[i])
	}
	_ = append(t.Args, fun(77))
}

// Whoever writes to an answer spoils neither what was handed in nor another part of the answer.
func TestTermsAreApartR2(t *testing.T) {
	for _, s := range someSubsts() {
		keptSubst := copied(s)
		for _, a := range samples() {
			kept, want := term.Copy(a), term.Copy(plainApply(s, a))
			put, _ := Apply(s, a)
			for i := range put.Args {
				if !term.Same(put.Args[i], want.Args[i]) {
					t.Fatalf("R2: two parts of what %v makes of %v share memory", keptSubst, kept)
				}
				spoil(&put.Args[i])
			}
			spoil(&put)
			shifted, _ := Shift(a, 0)
			spoil(&shifted)
			if !term.Same(a, kept) || !sameSubst(s, keptSubst) {
				t.Fatalf("R2: %v or %v was changed", keptSubst, kept)
			}
		}
	}
}

func TestSubstitutionsAreApartR2(t *testing.T) {
	for _, s := range someSubsts() {
		for _, u := range someSubsts() {
			keptS, keptU, want := copied(s), copied(u), copied(plainThen(s, u))
			both, _ := Then(s, u)
			for i := range both {
				if !term.Same(both[i].To, want[i].To) {
					t.Fatalf("R2: two parts of %v, then %v share memory", keptS, keptU)
				}
				spoil(&both[i].To)
				both[i].Var += 1000
			}
			_ = append(both, bind(77, fun(77)))
			if !sameSubst(s, keptS) || !sameSubst(u, keptU) {
				t.Fatalf("R2: %v or %v was changed", keptS, keptU)
			}
		}
	}
}
