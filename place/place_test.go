package place

import (
	"math"
	"slices"
	"testing"

	"elenchus/api"
	"elenchus/term"
)

const deepest = 1 << 16 // levels of nesting that the document still promises

func fun(head int, args ...api.Term) api.Term { return api.Term{Head: head, Args: args} }

func x(n int, args ...api.Term) api.Term { return api.Term{Head: -1 - n, Args: args} }

// chain is f(f(.. (end))), of n levels above the end.
func chain(n int, end api.Term) api.Term {
	for range n {
		end = fun(3, end)
	}
	return end
}

// doubled is a full binary tree of n levels above the end, its lists shared on every level.
func doubled(n int, end api.Term) api.Term {
	for range n {
		end = fun(4, end, end)
	}
	return end
}

// endless holds itself.
func endless() api.Term {
	args := make([]api.Term, 1)
	args[0] = fun(3, args...)
	return args[0]
}

// samples are all terms of size 4 or less over two Heads, a variable with Args among them, and some of other kinds.
func samples() []api.Term {
	bySize := make([][]api.Term, 5)
	lists := make([][][]api.Term, 5) // lists of terms, by their sizes together
	lists[0] = [][]api.Term{nil}
	var all []api.Term
	for n := 1; n <= 4; n++ {
		for _, h := range []int{-1, 7} {
			for _, args := range lists[n-1] {
				bySize[n] = append(bySize[n], fun(h, args...))
			}
		}
		for first := 1; first <= n; first++ {
			for _, t := range bySize[first] {
				for _, rest := range lists[n-first] {
					lists[n] = append(lists[n], append([]api.Term{t}, rest...))
				}
			}
		}
		all = append(all, bySize[n]...)
	}
	return append(all, fun(math.MaxInt, fun(math.MinInt), x(300)), chain(6, x(0)), doubled(4, fun(1)),
		fun(5, slices.Repeat([]api.Term{fun(3, x(1))}, 12)...), fun(4, fun(3, fun(1)), fun(4, fun(2), fun(1))))
}

// puttable are terms to put somewhere: smaller and greater ones, and ones that a valid term may not have.
func puttable() []api.Term {
	return []api.Term{{}, x(3), fun(2), chain(3, x(1)), fun(4, fun(1), x(0)), x(256, fun(1)), fun(math.MaxInt)}
}

// someLists are all lists of 3 ints or fewer, of -1 to 2, and some with ints at the bounds.
func someLists() [][]int {
	all := [][]int{nil}
	for from := 0; len(all[from]) < 3; from++ {
		for i := -1; i <= 2; i++ {
			all = append(all, append(slices.Clone(all[from]), i))
		}
	}
	return append(all, []int{math.MinInt}, []int{math.MaxInt}, []int{0, math.MinInt}, []int{0, math.MaxInt}, []int{0, 0, 0, 0, 0, 0, 0})
}

// The document's words, one by one, to hold the package against.

func plainAll(t api.Term) [][]int {
	all := [][]int{{}}
	for i, a := range t.Args {
		for _, p := range plainAll(a) {
			all = append(all, append([]int{i}, p...))
		}
	}
	return all
}

func plainAt(t api.Term, p []int) (api.Term, bool) {
	if len(p) == 0 {
		return t, true
	}
	for i, a := range t.Args {
		if i == p[0] {
			return plainAt(a, p[1:])
		}
	}
	return api.Term{}, false
}

func plainPut(t api.Term, p []int, u api.Term) api.Term {
	if len(p) == 0 {
		return u
	}
	c := api.Term{Head: t.Head}
	for i, a := range t.Args {
		if i == p[0] {
			a = plainPut(a, p[1:], u)
		}
		c.Args = append(c.Args, a)
	}
	return c
}

func plainUnder(p, q []int) bool {
	for n := range len(q) + 1 {
		if slices.Equal(p, q[:n]) {
			return true
		}
	}
	return false
}

func isZero(t api.Term) bool { return t.Head == 0 && t.Args == nil }

func equalLists(a, b [][]int) bool { return slices.EqualFunc(a, b, slices.Equal[[]int]) }

func TestAllP2_1(t *testing.T) {
	for _, c := range []struct {
		name string
		term api.Term
		want [][]int
	}{
		{"the example", fun(4, fun(1), fun(3, fun(2))), [][]int{{}, {0}, {1}, {1, 0}}},
		{"the zero value", api.Term{}, [][]int{{}}},
		{"a variable", x(7), [][]int{{}}},
		{"an empty list", api.Term{Head: 2, Args: []api.Term{}}, [][]int{{}}},
		{"one below the other", chain(3, x(0)), [][]int{{}, {0}, {0, 0}, {0, 0, 0}}},
		{"what is in an argument ahead of the next one", fun(5, fun(4, x(0), x(1)), x(2), fun(3, x(2))), [][]int{{}, {0}, {0, 0}, {0, 1}, {1}, {2}, {2, 0}}},
		{"a variable with arguments", x(0, fun(1), x(1, x(2))), [][]int{{}, {0}, {1}, {1, 0}}},
		{"Heads out of bounds", fun(math.MaxInt, fun(math.MinInt)), [][]int{{}, {0}}},
		{"shared lists", doubled(2, fun(1)), [][]int{{}, {0}, {0, 0}, {0, 1}, {1}, {1, 0}, {1, 1}}},
	} {
		if got := All(c.term); !equalLists(got, c.want) {
			t.Errorf("P2.1: %s: %v, not %v", c.name, got, c.want)
		}
	}
	for _, a := range samples() {
		if got, want := All(a), plainAll(a); !equalLists(got, want) {
			t.Fatalf("P2.1: the positions of %v are %v, not %v", a, got, want)
		}
	}
}

func TestAllOfGreatTermsP2_1(t *testing.T) {
	const wide, deep = 100000, 3000
	all := All(fun(5, slices.Repeat([]api.Term{fun(1)}, wide)...))
	if len(all) != wide+1 || len(all[0]) != 0 {
		t.Fatalf("P2.1: %d positions, not %d", len(all), wide+1)
	}
	for i, p := range all[1:] {
		if !slices.Equal(p, []int{i}) {
			t.Fatalf("P2.1: argument %d is at %v", i, p)
		}
	}
	all = All(chain(deep, x(0)))
	if len(all) != deep+1 {
		t.Fatalf("P2.1: %d positions, not %d", len(all), deep+1)
	}
	for level, p := range all {
		if !slices.Equal(p, make([]int, level)) {
			t.Fatalf("P2.1: level %d is at %v", level, p)
		}
	}
}

func TestAllListsAreApartP2_1(t *testing.T) {
	for _, a := range samples() {
		want, got := plainAll(a), All(a)
		for i := range got {
			_ = append(got[i], 77)
			for k := range got[i] {
				got[i][k] += 1000
				want[i][k] += 1000
			}
			if !equalLists(got, want) {
				t.Fatalf("P2.1: two positions of %v share memory: %v", a, got)
			}
		}
	}
}

func TestAtP2_1(t *testing.T) {
	a := fun(4, fun(3, fun(1)), fun(4, fun(2), x(1)))
	for _, c := range []struct {
		name  string
		term  api.Term
		place []int
		want  api.Term
		found bool
	}{
		{"the term itself, nil", a, nil, a, true},
		{"the term itself, an empty list", a, []int{}, a, true},
		{"an argument", a, []int{0}, fun(3, fun(1)), true},
		{"the last argument", a, []int{1}, fun(4, fun(2), x(1)), true},
		{"a variable below", a, []int{1, 1}, x(1), true},
		{"an index too great", a, []int{2}, api.Term{}, false},
		{"an index too great below", a, []int{0, 1}, api.Term{}, false},
		{"an index below 0", a, []int{-1}, api.Term{}, false},
		{"an index below 0 below", a, []int{1, -1}, api.Term{}, false},
		{"below a symbol without arguments", a, []int{1, 0, 0}, api.Term{}, false},
		{"below a variable", a, []int{1, 1, 0}, api.Term{}, false},
		{"wrong at first, right then", a, []int{2, 0}, api.Term{}, false},
		{"the least index", a, []int{math.MinInt}, api.Term{}, false},
		{"the greatest index", a, []int{math.MaxInt}, api.Term{}, false},
		{"the zero value", api.Term{}, nil, api.Term{}, true},
		{"in the zero value", api.Term{}, []int{0}, api.Term{}, false},
		{"beyond the length, within the capacity", api.Term{Head: 4, Args: a.Args[:1]}, []int{1}, api.Term{}, false},
		{"an argument of a variable", x(0, fun(1), fun(2)), []int{1}, fun(2), true},
		{"the deepest", chain(deepest-1, x(9)), make([]int, deepest-1), x(9), true},
		{"below the deepest", chain(deepest-1, x(9)), make([]int, deepest), api.Term{}, false},
	} {
		got, found := At(c.term, c.place)
		if found != c.found || !term.Same(got, c.want) || !found && !isZero(got) {
			t.Errorf("P2.1: %s: %v, %v", c.name, got, found)
		}
	}
}

func TestAtOfManyP2_1(t *testing.T) {
	for _, a := range samples() {
		for _, p := range append(someLists(), All(a)...) {
			want, there := plainAt(a, p)
			got, found := At(a, p)
			if found != there || !term.Same(got, want) || !found && !isZero(got) {
				t.Fatalf("P2.1: in %v at %v: %v, %v", a, p, got, found)
			}
			listed := slices.ContainsFunc(All(a), func(q []int) bool { return slices.Equal(p, q) })
			if found != listed {
				t.Fatalf("P2.1: in %v at %v: At answers %v, All lists it: %v", a, p, found, listed)
			}
		}
	}
}

func TestPutP2_2(t *testing.T) {
	a := fun(4, fun(3, fun(1)), fun(4, fun(2), x(1)))
	u := fun(3, x(5))
	for _, c := range []struct {
		name  string
		place []int
		want  api.Term
		err   api.Errno
	}{
		{"all of it, nil", nil, u, api.OK},
		{"all of it, an empty list", []int{}, u, api.OK},
		{"the first argument", []int{0}, fun(4, u, fun(4, fun(2), x(1))), api.OK},
		{"the last argument", []int{1}, fun(4, fun(3, fun(1)), u), api.OK},
		{"a symbol below", []int{0, 0}, fun(4, fun(3, u), fun(4, fun(2), x(1))), api.OK},
		{"a variable below", []int{1, 1}, fun(4, fun(3, fun(1)), fun(4, fun(2), u)), api.OK},
		{"an index too great", []int{2}, api.Term{}, api.ErrNone},
		{"an index too great below", []int{0, 1}, api.Term{}, api.ErrNone},
		{"an index below 0", []int{-1}, api.Term{}, api.ErrNone},
		{"an index below 0 below", []int{1, -1}, api.Term{}, api.ErrNone},
		{"below a symbol without arguments", []int{1, 0, 0}, api.Term{}, api.ErrNone},
		{"below a variable", []int{1, 1, 0}, api.Term{}, api.ErrNone},
		{"the least index", []int{math.MinInt}, api.Term{}, api.ErrNone},
		{"the greatest index", []int{math.MaxInt}, api.Term{}, api.ErrNone},
	} {
		got, err := Put(a, c.place, u)
		if err != c.err || !term.Same(got, c.want) || err != api.OK && !isZero(got) {
			t.Errorf("P2.2: %s: %v, %d", c.name, got, err)
		}
	}
}

func TestPutInManyP2_2(t *testing.T) {
	for _, a := range samples() {
		for _, p := range append(someLists(), All(a)...) {
			for _, u := range puttable() {
				kept, keptPlace, keptPart := term.Copy(a), slices.Clone(p), term.Copy(u)
				got, err := Put(a, p, u)
				if _, there := plainAt(a, p); !there {
					if err != api.ErrNone || !isZero(got) {
						t.Fatalf("P2.2: in %v at %v: %v, %d", a, p, got, err)
					}
				} else if err != api.OK || !term.Same(got, plainPut(a, p, u)) {
					t.Fatalf("P2.2: in %v at %v: %v, %d", a, p, got, err)
				}
				if !term.Same(a, kept) || !slices.Equal(p, keptPlace) || !term.Same(u, keptPart) {
					t.Fatalf("P2.2: Put in %v at %v changed what it was given", kept, keptPlace)
				}
			}
		}
	}
}

func TestPutInGreatTermsP2_2(t *testing.T) {
	a := chain(deepest-1, x(9))
	got, err := Put(a, make([]int, deepest-1), fun(2))
	if err != api.OK || !term.Same(got, chain(deepest-1, fun(2))) || !term.Same(a, chain(deepest-1, x(9))) {
		t.Errorf("P2.2: at the deepest: %d", err)
	}
	if got, err := Put(a, make([]int, deepest), fun(2)); err != api.ErrNone || !isZero(got) {
		t.Errorf("P2.2: below the deepest: %v, %d", got, err)
	}
}

// A list that stands at several places of a term, or has room behind its end, is the one that a careless Put spoils.
func TestPutInSharedListsP2_2(t *testing.T) {
	got, err := Put(doubled(2, fun(1)), []int{1, 0}, fun(2))
	if err != api.OK || !term.Same(got, fun(4, fun(4, fun(1), fun(1)), fun(4, fun(2), fun(1)))) {
		t.Errorf("P2.2: in a shared list: %v, %d", got, err)
	}
	room := []api.Term{fun(1), fun(2), fun(3)}
	got, err = Put(api.Term{Head: 4, Args: room[:2]}, []int{1}, fun(9))
	if err != api.OK || !term.Same(got, fun(4, fun(1), fun(9))) || !term.Same(fun(5, room...), fun(5, fun(1), fun(2), fun(3))) {
		t.Errorf("P2.2: in a list with room behind it: %v, %d, %v", got, err, room)
	}
	self := fun(4, fun(1), fun(2))
	got, err = Put(self, []int{0}, self)
	if err != api.OK || !term.Same(got, fun(4, fun(4, fun(1), fun(2)), fun(2))) {
		t.Errorf("P2.2: a term in itself: %v, %d", got, err)
	}
}

func TestUnderAndApartP2_3(t *testing.T) {
	for _, c := range []struct {
		p, q         []int
		under, apart bool
	}{
		{nil, nil, true, false},
		{nil, []int{}, true, false},
		{[]int{}, nil, true, false},
		{nil, []int{1}, true, false},
		{[]int{1}, nil, false, false},
		{[]int{1}, []int{1}, true, false},
		{[]int{1}, []int{1, 2}, true, false},
		{[]int{1, 2}, []int{1}, false, false},
		{[]int{1}, []int{2, 1}, false, true},
		{[]int{2}, []int{1, 2}, false, true},
		{[]int{1, 2}, []int{1, 3}, false, true},
		{[]int{1, 2, 3}, []int{0, 2, 3, 4}, false, true},
		{[]int{-1}, []int{-1, math.MinInt}, true, false},
		{[]int{math.MinInt}, []int{math.MaxInt}, false, true},
	} {
		if Under(c.p, c.q) != c.under || Apart(c.p, c.q) != c.apart || Apart(c.q, c.p) != c.apart {
			t.Errorf("P2.3: %v and %v: Under %v, Apart %v", c.p, c.q, Under(c.p, c.q), Apart(c.p, c.q))
		}
	}
}

func TestUnderAndApartOfManyP2_3(t *testing.T) {
	for _, p := range someLists() {
		for _, q := range someLists() {
			keptP, keptQ := slices.Clone(p), slices.Clone(q)
			if got := Under(p, q); got != plainUnder(p, q) {
				t.Fatalf("P2.3: Under of %v and %v: %v", p, q, got)
			}
			if got := Apart(p, q); got != (!plainUnder(p, q) && !plainUnder(q, p)) {
				t.Fatalf("P2.3: Apart of %v and %v: %v", p, q, got)
			}
			if !slices.Equal(p, keptP) || !slices.Equal(q, keptQ) {
				t.Fatalf("P2.3: %v or %v was changed", keptP, keptQ)
			}
		}
	}
}

func TestWhatPutLeavesP2_4(t *testing.T) {
	for _, a := range samples() {
		for _, p := range All(a) {
			old, _ := At(a, p)
			if same, err := Put(a, p, old); err != api.OK || !term.Same(same, a) {
				t.Fatalf("P2.4: what is in %v at %v, put there again: %v, %d", a, p, same, err)
			}
			for _, u := range puttable() {
				b, err := Put(a, p, u)
				if got, found := At(b, p); err != api.OK || !found || !term.Same(got, u) {
					t.Fatalf("P2.4: %v, put in %v at %v: there is %v", u, a, p, got)
				}
				for _, q := range All(a) {
					was, _ := At(a, q)
					if is, found := At(b, q); Apart(p, q) && (!found || !term.Same(is, was)) {
						t.Fatalf("P2.4: %v, put in %v at %v: at %v there is %v", u, a, p, q, is)
					}
				}
			}
		}
	}
}

func TestPutBelowP2_4(t *testing.T) {
	for _, a := range samples() {
		for _, p := range All(a) {
			part, _ := At(a, p)
			for _, q := range append(someLists(), All(part)...) {
				for _, u := range puttable() {
					got, err := Put(a, concat(p, q), u)
					inner, innerErr := Put(part, q, u)
					if err != innerErr {
						t.Fatalf("P2.4: in %v at %v and %v: %d, but in the subterm %d", a, p, q, err, innerErr)
					}
					if want, _ := Put(a, p, inner); err == api.OK && !term.Same(got, want) {
						t.Fatalf("P2.4: in %v at %v and %v: %v, not %v", a, p, q, got, want)
					}
				}
			}
		}
	}
}

// At and Put go down one way only: a term that is far greater than its memory, or has no end, is no harm to them.
func TestTheyEndR1(t *testing.T) {
	p := make([]int, 300)
	if got, found := At(doubled(300, x(2)), p); !found || !term.Same(got, x(2)) {
		t.Errorf("R1: in shared lists: %v, %v", got, found)
	}
	b, err := Put(doubled(300, x(2)), p, fun(1))
	if got, found := At(b, p); err != api.OK || !found || !term.Same(got, fun(1)) {
		t.Errorf("R1: put in shared lists: %d, %v, %v", err, got, found)
	}
	if got, found := At(endless(), p); !found || got.Head != 3 {
		t.Errorf("R1: without end: %d, %v", got.Head, found)
	}
	b, err = Put(endless(), p, x(0))
	if err != api.OK || !term.Same(b, chain(300, x(0))) {
		t.Errorf("R1: put without end: %d", err)
	}
}

func TestArgumentsStayR2(t *testing.T) {
	for _, a := range samples() {
		kept := term.Copy(a)
		for _, p := range append(someLists(), All(a)...) {
			keptPlace := slices.Clone(p)
			At(a, p)
			if !term.Same(a, kept) || !slices.Equal(p, keptPlace) {
				t.Fatalf("R2: %v or %v was changed", kept, keptPlace)
			}
		}
	}
}
