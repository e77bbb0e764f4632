package term

import (
	"math"
	"slices"
	"testing"

	"elenchus/api"
)

const deepest = 1 << 16 // levels of nesting that the document still promises

func fun(head int, args ...api.Term) api.Term { return api.Term{Head: head, Args: args} }

func x(n int, args ...api.Term) api.Term { return api.Term{Head: -1 - n, Args: args} }

// chain is f(f(.. (end))), of n levels above the end.
func chain(n int, end api.Term) api.Term {
	for range n {
		end = fun(3, end)
	}
	return end
}

// row is one symbol with n arguments.
func row(n int, arg api.Term) api.Term { return fun(5, slices.Repeat([]api.Term{arg}, n)...) }

// doubled is a full binary tree of n levels above the end, its lists shared on every level.
func doubled(n int, end api.Term) api.Term {
	for range n {
		end = fun(4, end, end)
	}
	return end
}

// broad is a term of size n, flat, with no more than 8 Args anywhere.
func broad(n int) api.Term { return broadFrom(0, n) }

// broadFrom is the ith of n subterms that are counted level by level.
func broadFrom(i, n int) api.Term {
	t := fun(6)
	for k := 8*i + 1; k <= 8*i+8 && k < n; k++ {
		t.Args = append(t.Args, broadFrom(k, n))
	}
	return t
}

// endless holds itself.
func endless() api.Term {
	args := make([]api.Term, 1)
	args[0] = fun(3, args...)
	return args[0]
}

// samples are all terms of size 4 or less over a few Heads, wrong ones among them.
func samples() []api.Term {
	heads := []int{-2, -1, 0, 1}
	bySize := make([][]api.Term, 5)
	lists := make([][][]api.Term, 5) // lists of terms, by their sizes together
	lists[0] = [][]api.Term{nil}
	var all []api.Term
	for n := 1; n <= 4; n++ {
		for _, h := range heads {
			for _, args := range lists[n-1] {
				bySize[n] = append(bySize[n], fun(h, args...))
			}
		}
		for first := 1; first <= n; first++ {
			for _, t := range bySize[first] {
				for _, rest := range lists[n-first] {
					lists[n] = append(lists[n], append([]api.Term{t}, rest...))
				}
			}
		}
		all = append(all, bySize[n]...)
	}
	return all
}

// thinned is every kth of the samples, for what is too much work for all of them, and some terms of other kinds.
func thinned(k int) []api.Term {
	var some []api.Term
	for i, t := range samples() {
		if i%k == 0 || i < 40 {
			some = append(some, t)
		}
	}
	return append(some, fun(1023), fun(math.MaxInt), fun(math.MinInt), x(255), chain(5, x(0)), chain(5, x(1)),
		fun(4, chain(3, x(0)), fun(1)), fun(4, fun(1), chain(3, x(0))), fun(4, fun(4, fun(1), fun(2)), fun(3, fun(1))), fun(4, fun(3, fun(1)), fun(4, fun(1), fun(2))))
}

// grown is a term of that size, its shape and its two Heads told by the digits of the seed; what is left of the seed comes back.
func grown(size int, seed int) (api.Term, int) {
	t := fun(seed % 2)
	seed /= 2
	for left := size - 1; left > 0; {
		n := 1 + seed%left
		a, rest := grown(n, seed/left)
		t.Args = append(t.Args, a)
		left, seed = left-n, rest
	}
	return t, seed
}

// The document's words, one by one, to hold the package against.

func plainSize(t api.Term) int {
	n := 1
	for _, a := range t.Args {
		n += plainSize(a)
	}
	return n
}

func plainDepth(t api.Term) int {
	n := 0
	for _, a := range t.Args {
		n = max(n, plainDepth(a))
	}
	return n + 1
}

func plainVars(t api.Term, found []int) []int {
	if t.Head < 0 && !slices.Contains(found, -1-t.Head) {
		found = append(found, -1-t.Head)
	}
	for _, a := range t.Args {
		found = plainVars(a, found)
	}
	return found
}

func plainSame(a, b api.Term) bool {
	return a.Head == b.Head && slices.EqualFunc(a.Args, b.Args, plainSame)
}

func plainCompare(a, b api.Term) int {
	for _, p := range [][2]int{{plainSize(a), plainSize(b)}, {a.Head, b.Head}, {len(a.Args), len(b.Args)}} {
		if p[0] < p[1] {
			return -1
		}
		if p[0] > p[1] {
			return 1
		}
	}
	for i := range a.Args {
		if !plainSame(a.Args[i], b.Args[i]) {
			return plainCompare(a.Args[i], b.Args[i])
		}
	}
	return 0
}

func TestCheckP1_1(t *testing.T) {
	for _, c := range []struct {
		name string
		term api.Term
		want api.Errno
	}{
		{"the zero value", api.Term{}, api.OK},
		{"an ordinary term", fun(4, x(1), fun(3, x(0))), api.OK},
		{"a variable with an empty list", api.Term{Head: -1, Args: []api.Term{}}, api.OK},
		{"one symbol with various numbers of arguments", fun(4, fun(4), fun(4, fun(4))), api.OK},
		{"size 399", broad(399), api.OK},
		{"size 400", broad(400), api.OK},
		{"size 401", broad(401), api.ErrLong},
		{"a long list", row(1000000, fun(1)), api.ErrLong},
		{"depth 40", chain(39, fun(1)), api.OK},
		{"depth 41", chain(40, fun(1)), api.ErrDeep},
		{"depth 41, last argument", fun(4, fun(1), chain(39, fun(1))), api.ErrDeep},
		{"depth 41, first argument", fun(4, chain(39, fun(1)), fun(1)), api.ErrDeep},
		{"variable 255", x(255), api.OK},
		{"variable 256", x(256), api.ErrArg},
		{"variable 256 inside", fun(4, fun(1), fun(3, x(256))), api.ErrArg},
		{"the least Head", fun(math.MinInt), api.ErrArg},
		{"a variable with arguments", x(0, fun(1)), api.ErrArg},
		{"a variable with arguments inside", fun(4, x(0, x(1)), fun(1)), api.ErrArg},
		{"Head 1023", fun(1023), api.OK},
		{"Head 1024", fun(1024), api.ErrArg},
		{"Head 1024 inside", fun(4, fun(3, fun(1024)), fun(1)), api.ErrArg},
		{"the greatest Head", fun(math.MaxInt), api.ErrArg},
		{"8 arguments", row(8, fun(1)), api.OK},
		{"9 arguments", row(9, fun(1)), api.ErrArg},
		{"9 arguments inside", fun(3, row(9, x(0))), api.ErrArg},
		{"9 arguments of a variable", x(0, row(9, x(0)).Args...), api.ErrArg},
		{"long and deep", chain(400, fun(1)), api.ErrLong},
		{"long and wrong", row(400, fun(1024)), api.ErrLong},
		{"long, deep and wrong", chain(500, x(256)), api.ErrLong},
		{"400 subterms, deep and wrong", chain(399, x(256)), api.ErrDeep},
		{"wrong at the top, deep below", x(0, chain(40, fun(1))), api.ErrDeep},
		{"wrong at the top, long below", fun(1024, broad(400)), api.ErrLong},
		{"deep on the left, long on the right", fun(4, chain(41, fun(1)), broad(400)), api.ErrLong},
		{"2^301 - 1 subterms in shared lists", doubled(300, fun(1)), api.ErrLong},
		{"no end", endless(), api.ErrLong},
	} {
		if got := Check(c.term); got != c.want {
			t.Errorf("P1.1: %s: %d, not %d", c.name, got, c.want)
		}
	}
}

func TestCheckSizesP1_1(t *testing.T) {
	for n := 1; n <= 1000; n++ {
		want := api.OK
		if n > api.MaxNodes {
			want = api.ErrLong
		}
		if got := Check(broad(n)); plainSize(broad(n)) != n || got != want {
			t.Errorf("P1.1: size %d: %d, not %d", n, got, want)
		}
	}
}

func TestMeasureP1_2(t *testing.T) {
	for _, c := range []struct {
		name        string
		term        api.Term
		size, depth int
		vars        []int
	}{
		{"the example", fun(4, x(1), fun(3, x(0))), 4, 3, []int{1, 0}},
		{"the zero value", api.Term{}, 1, 1, nil},
		{"a variable", x(7), 1, 1, []int{7}},
		{"an empty list", api.Term{Head: 2, Args: []api.Term{}}, 1, 1, nil},
		{"repetition", fun(4, x(0), fun(4, x(0), x(0))), 5, 3, []int{0}},
		{"the deepest is not the last", fun(4, chain(5, x(3)), x(2)), 8, 7, []int{3, 2}},
		{"first occurrences", fun(5, fun(3, x(2)), x(0), fun(4, x(2), x(1)), x(0)), 8, 3, []int{2, 0, 1}},
		{"a variable before its Args", x(4, x(3), x(4, x(5))), 4, 3, []int{4, 3, 5}},
		{"variables and symbols out of bounds", fun(math.MaxInt, fun(math.MinInt), x(300)), 3, 2, []int{math.MaxInt, 300}},
		{"more than a valid term has", row(5000, fun(3, x(1))), 10001, 3, []int{1}},
		{"shared lists", doubled(12, x(6)), 1<<13 - 1, 13, []int{6}},
		{"the deepest", chain(deepest-1, x(9)), deepest, deepest, []int{9}},
	} {
		if got := Size(c.term); got != c.size {
			t.Errorf("P1.2: %s: size %d, not %d", c.name, got, c.size)
		}
		if got := Depth(c.term); got != c.depth {
			t.Errorf("P1.2: %s: depth %d, not %d", c.name, got, c.depth)
		}
		if got := Vars(c.term); !slices.Equal(got, c.vars) {
			t.Errorf("P1.2: %s: variables %v, not %v", c.name, got, c.vars)
		}
	}
}

func TestMeasureOfAllSmallP1_2(t *testing.T) {
	for _, a := range samples() {
		if Size(a) != plainSize(a) || Depth(a) != plainDepth(a) || !slices.Equal(Vars(a), plainVars(a, nil)) {
			t.Fatalf("P1.2: %v: %d, %d, %v", a, Size(a), Depth(a), Vars(a))
		}
	}
}

// spoil writes to every place of a term's memory, and appends within the capacity of its lists.
func spoil(t *api.Term) {
	t.Head += 1000
	for i := range t.Args {
		spoil(&t.Args[i])
	}
	_ = append(t.Args, fun(77))
}

func TestCopyP1_2(t *testing.T) {
	shared := make([]api.Term, 2, 9)
	shared[0], shared[1] = fun(1), x(2)
	for _, a := range append(thinned(50), fun(4, fun(4, shared...), fun(4, shared...)), api.Term{Head: 4, Args: shared}) {
		kept := plainCopy(a)
		b := Copy(a)
		if !plainSame(a, b) || !plainSame(a, kept) {
			t.Fatalf("P1.2: the copy of %v is %v", kept, b)
		}
		spoil(&b)
		if !plainSame(a, kept) || !plainSame(shared[:3][2], api.Term{}) {
			t.Fatalf("P1.2: the copy of %v shares memory with it", kept)
		}
	}
}

func plainCopy(t api.Term) api.Term {
	c := api.Term{Head: t.Head}
	for _, a := range t.Args {
		c.Args = append(c.Args, plainCopy(a))
	}
	return c
}

func TestCopyPartsP1_2(t *testing.T) {
	c := Copy(doubled(3, fun(3, x(0))))
	c.Args[0].Args[0].Args[0].Args[0].Head = 9
	spoil(&c.Args[1])
	if c.Args[0].Args[0].Args[0].Args[0].Head != 9 || !plainSame(c.Args[0].Args[1], doubled(1, fun(3, x(0)))) {
		t.Errorf("P1.2: two parts of a copy share memory: %v", c)
	}
	if c := Copy(chain(deepest-1, x(9))); Depth(c) != deepest || !Same(c, chain(deepest-1, x(9))) {
		t.Error("P1.2: the copy of a deep term is not the same")
	}
}

func TestSameP1_3(t *testing.T) {
	a := fun(4, x(1), fun(3, x(0)))
	for _, c := range []struct {
		a, b api.Term
		want bool
	}{
		{a, fun(4, x(1), fun(3, x(0))), true},
		{a, fun(4, x(1), fun(3, x(1))), false},
		{a, fun(4, x(0), fun(3, x(0))), false},
		{a, fun(4, x(1), fun(2, x(0))), false},
		{a, fun(5, x(1), fun(3, x(0))), false},
		{a, fun(4, x(1)), false},
		{a, fun(4, x(1), fun(3, x(0)), x(2)), false},
		{a, fun(4, x(1), fun(3, x(0), x(0))), false},
		{fun(2), api.Term{Head: 2, Args: []api.Term{}}, true},
		{fun(4, fun(3, fun(1)), fun(2)), fun(4, fun(3), fun(1, fun(2))), false},
		{x(0, fun(1)), x(0, fun(1)), true},
		{x(0, fun(1)), x(0), false},
		{chain(deepest-1, x(0)), chain(deepest-1, x(0)), true},
		{chain(deepest-1, x(0)), chain(deepest-1, x(1)), false},
		{chain(deepest-1, x(0)), chain(deepest-2, x(0)), false},
	} {
		if Same(c.a, c.b) != c.want || Same(c.b, c.a) != c.want {
			t.Errorf("P1.3: not %v: Same of sizes %d and %d, heads %d and %d", c.want, Size(c.a), Size(c.b), c.a.Head, c.b.Head)
		}
	}
}

func TestCompareP1_3(t *testing.T) {
	for _, c := range []struct {
		name string
		a, b api.Term
		want int
	}{
		{"the size ahead of the Head", fun(9), fun(0, fun(0)), -1},
		{"the size ahead of the arguments", fun(9, fun(9), fun(9)), fun(0, fun(0), fun(0, fun(0))), -1},
		{"the Head ahead of their number", fun(3, fun(1), fun(1)), fun(4, fun(3, fun(1))), -1},
		{"their number ahead of the arguments", fun(3, fun(0), fun(0)), fun(3, fun(1, fun(1))), 1},
		{"the first that are not the same", fun(4, fun(1), fun(2), fun(0)), fun(4, fun(1), fun(0), fun(2)), 1},
		{"the size of these ahead of what is in them", fun(4, fun(9, fun(9)), fun(0)), fun(4, fun(0), fun(9, fun(9))), 1},
		{"an inner size ahead of an innermost Head", fun(4, fun(4, fun(1), fun(3, fun(1))), fun(2)), fun(4, fun(4, fun(2), fun(1)), fun(3, fun(2))), 1},
		{"an innermost Head where all sizes are the same", fun(4, fun(4, fun(1), fun(3, fun(1))), fun(2)), fun(4, fun(4, fun(2), fun(3, fun(0))), fun(0)), -1},
		{"variables go down", x(1), x(0), -1},
		{"a variable ahead of a symbol", x(0), fun(0), -1},
		{"Heads without wrap-round", fun(math.MinInt), fun(math.MaxInt), -1},
		{"deep, the same", chain(deepest-1, x(0)), chain(deepest-1, x(0)), 0},
		{"deep, other ends", chain(deepest-1, x(0)), chain(deepest-1, x(1)), 1},
		{"deep, other sizes", chain(deepest-2, fun(9)), chain(deepest-1, x(1)), -1},
	} {
		if got, back := Compare(c.a, c.b), Compare(c.b, c.a); got != c.want || back != -c.want {
			t.Errorf("P1.3: %s: %d and back %d, not %d", c.name, got, back, c.want)
		}
	}
}

func TestCompareOfManyP1_3(t *testing.T) {
	terms := thinned(7)
	for seed := range 300 {
		a, _ := grown(8, seed*7919)
		b, _ := grown(9+seed%2, seed*104729)
		terms = append(terms, a, b)
	}
	for _, a := range terms {
		for _, b := range terms {
			if Same(a, b) != plainSame(a, b) {
				t.Fatalf("P1.3: Same of %v and %v: %v", a, b, Same(a, b))
			}
			if got, want := Compare(a, b), plainCompare(a, b); got != want {
				t.Fatalf("P1.3: Compare of %v and %v: %d, not %d", a, b, got, want)
			}
		}
	}
}

// Sorted terms that all stand as their places do are in a total order: no two of the samples are the same.
func TestTotalOrderP1_4(t *testing.T) {
	terms := thinned(7)
	slices.SortFunc(terms, Compare)
	for i, a := range terms {
		for k, b := range terms {
			want := 0
			if i < k {
				want = -1
			}
			if i > k {
				want = 1
			}
			if got := Compare(a, b); got != want {
				t.Fatalf("P1.4: %v and %v: %d, not %d", a, b, got, want)
			}
		}
	}
}

func TestSubtermIsLessP1_4(t *testing.T) {
	var below func(whole, part api.Term)
	below = func(whole, part api.Term) {
		for _, a := range part.Args {
			if Compare(a, whole) != -1 || Compare(whole, a) != 1 {
				t.Fatalf("P1.4: %v is not less than %v", a, whole)
			}
			below(whole, a)
		}
	}
	for _, a := range append(samples(), broad(400), chain(100, x(0))) {
		below(a, a)
	}
}

func TestArgumentsStayR2(t *testing.T) {
	for _, a := range append(thinned(50), broad(400)) {
		kept := plainCopy(a)
		b := fun(3, a)
		Check(a)
		Size(a)
		Depth(a)
		Vars(a)
		Same(a, kept)
		Compare(a, b)
		Compare(b, a)
		Compare(fun(4, a, fun(1)), fun(4, a, fun(2)))
		if !plainSame(a, kept) || !plainSame(b, fun(3, kept)) {
			t.Fatalf("R2: %v was changed", kept)
		}
	}
}
