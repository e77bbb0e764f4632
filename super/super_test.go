package super

import (
	"math"
	"slices"
	"testing"

	"elenchus/api"
	"elenchus/clause"
	"elenchus/term"
)

type example struct {
	name string
	c, d []api.Lit
	how  int
	want []api.Got
	lost int
}

func (e example) try(t *testing.T, promise string, infer inference) {
	t.Helper()
	if l, lost, err := infer(toy(), e.c, e.d, e.how); !sameGots(l, e.want) || lost != e.lost || err != api.OK {
		t.Errorf("%s: %s: %v, %d, %d; not %v, %d", promise, e.name, l, lost, err, e.want, e.lost)
	}
}

// one is a list of one conclusion.
func one(i, k int, place []int, by []api.Bind, c ...api.Lit) []api.Got {
	return []api.Got{got(i, k, place, by, c...)}
}

func f(t api.Term) api.Term { return fun(3, t) }

func g(s, t api.Term) api.Term { return fun(4, s, t) }

func p(t api.Term) api.Lit { return holds(fun(6, t)) }

func notP(t api.Term) api.Lit { return denied(fun(6, t)) }

func TestIntoP13_1(t *testing.T) {
	a, b, c := fun(1), fun(2), fun(9)
	for _, e := range []example{
		{"the document's first example", list(eq(f(x(0)), x(0))), list(p(f(a))), 0, one(0, 0, at(0, 0), to(0, a), p(a)), 0},
		{"the document's second example", list(p(a)), list(notP(x(0))), 0, one(0, 0, at(0), to(0, a)), 0},
		{"empty clauses", nil, nil, 0, nil, 0},
		{"from the empty clause", nil, list(p(a)), 0, nil, 0},
		{"into the empty clause", list(p(a)), nil, 0, nil, 0},
		{"the right side of c", list(eq(x(0), f(x(0)))), list(p(f(a))), 0, one(0, 0, at(0, 0), to(0, a), p(a)), 0},
		{"the right side of d", list(eq(f(x(0)), a)), list(eq(b, f(a))), 0, one(0, 0, at(1), to(0, a), eq(b, a)), 0},
		{"the right side of a negative literal", list(eq(f(x(0)), a)), list(ne(b, g(b, f(b)))), 0, one(0, 0, at(1, 1), to(0, b), ne(b, g(b, a))), 0},
		{"a side without a symbol at any place but a variable's", list(eq(f(x(0)), a)), list(eq(g(x(0), x(1)), b)), 0, nil, 0},
		{"other symbols", list(eq(f(x(0)), a)), list(p(g(a, b))), 0, nil, 0},
		{"one place in another", list(eq(f(x(0)), x(0))), list(p(f(f(a)))), 0, []api.Got{got(0, 0, at(0, 0), to(0, f(a)), p(f(a))), got(0, 0, at(0, 0, 0), to(0, a), p(f(a)))}, 0},
		{"a unifier that changes both", list(eq(g(x(0), a), x(0))), list(notP(g(b, x(0)))), 0, one(0, 0, at(0, 0), to(0, b, api.Bind{Var: 1, To: a}), notP(b)), 0},
		{"a term in itself", list(eq(g(x(0), x(0)), x(0))), list(notP(g(x(0), f(x(0))))), 0, nil, 0},
		{"not negative", list(ne(f(x(0)), a)), list(p(f(a))), 0, nil, 0},
		{"a denied atom", list(notP(a)), list(p(a)), 0, nil, 0},
		{"atoms, the same way", list(p(a)), list(p(x(5))), 0, one(0, 0, at(0), to(0, a), holds(fun(0))), 0},
		{"atoms of two predicates", list(p(a)), list(denied(fun(8)), denied(fun(7, a, a))), 0, nil, 0},
		{"a variable is no atom", list(eq(x(0), a)), list(denied(fun(8)), denied(fun(0))), 0, nil, 0},
		{"a variable", list(eq(x(0), a)), list(p(f(b))), 0, []api.Got{got(0, 0, at(0, 0), to(0, f(b)), p(a)), got(0, 0, at(0, 0, 0), to(0, b), p(f(a)))}, 0},
		{"a term that is not in d", list(eq(c, b)), list(eq(b, a)), 0, nil, 0},
		{"$true as l", list(holds(fun(0))), list(denied(fun(0)), p(a)), 0, nil, 0},
		{"$true as u", list(p(a), holds(fun(8))), list(denied(fun(0))), 0, nil, 0},
	} {
		e.try(t, "P13.1", Into)
	}
}

// The variables of d are numbered anew, behind those of c.
func TestApartP13_1(t *testing.T) {
	a := fun(1)
	for _, e := range []example{
		{"the same variable", list(p(x(0))), list(notP(f(x(0)))), 0, one(0, 0, at(0), to(0, f(x(1)))), 0},
		{"behind the greatest", list(p(x(3))), list(notP(f(x(3))), holds(fun(7, x(4), x(3)))), 1, one(0, 0, at(0), to(3, f(x(4))), holds(fun(7, x(0), x(1)))), 0},
		{"behind a variable of another literal", list(p(x(0)), p(fun(4, x(9), x(9)))), list(notP(f(x(7)))), 0, one(0, 0, at(0), to(0, f(x(10))), p(g(x(0), x(0)))), 0},
		{"no variables in c", list(p(a)), list(notP(x(200))), 0, one(0, 0, at(0), to(0, a)), 0},
		{"of two variables the greater one is bound", list(p(x(254))), list(notP(x(7))), 0, one(0, 0, at(0), to(255, x(254))), 0},
		{"the greatest variable, and none in d", list(p(x(255))), list(notP(a)), 0, one(0, 0, at(0), to(255, a)), 0},
		{"the conclusion's variables", list(p(x(9)), p(fun(4, x(5), x(7)))), list(notP(g(x(4), x(4))), notP(x(9))), 2, []api.Got{
			got(0, 0, at(0), to(9, g(x(10), x(10))), p(g(x(0), x(1))), notP(x(2))),
			got(1, 0, at(0), to(7, x(5), api.Bind{Var: 10, To: x(5)}), p(x(0)), notP(x(1)))}, 0},
	} {
		e.try(t, "P13.1", Into)
	}
}

func TestOrderP13_1(t *testing.T) {
	a, b, c := fun(1), fun(2), fun(9)
	for _, e := range []example{
		{"l less than r", list(eq(a, f(a))), list(p(a)), 0, nil, 0},
		{"l Equal to r", list(eq(a, a)), list(p(a)), 0, nil, 0},
		{"l Equal to r by the unifier, but r not to l", list(eq(x(0), a)), list(p(a)), 0, one(0, 0, at(0, 0), nil, p(x(0))), 0},
		{"l less than r by the unifier", list(eq(f(x(0)), c)), list(p(f(a))), 0, nil, 0},
		{"l neither less nor greater", list(eq(f(x(0)), c)), list(p(f(x(0)))), 0, one(0, 0, at(0, 0), to(1, x(0)), p(c)), 0},
		{"both sides neither less nor greater", list(eq(x(0), x(1))), list(p(a)), 0, []api.Got{got(0, 0, at(0, 0), to(0, a), p(x(0))), got(0, 0, at(0, 0), to(1, a), p(x(0)))}, 0},
		{"s less than t", list(eq(b, a)), list(eq(b, f(a))), 0, nil, 0},
		{"s Equal to t", list(eq(b, a)), list(ne(b, b)), 0, nil, 0},
		{"s Equal to t by the unifier", list(eq(f(b), a)), list(eq(f(x(0)), f(b))), 0, one(0, 0, at(1), nil, eq(f(x(0)), a)), 0},
		{"s less than t by the unifier", list(eq(f(a), a)), list(eq(f(x(0)), c)), 0, nil, 0},
		{"s neither less nor greater", list(eq(f(x(0)), a)), list(eq(f(x(0)), c)), 0, one(0, 0, at(0), to(1, x(0)), eq(a, c)), 0},
		{"into a negative literal's lesser side", list(eq(b, a)), list(ne(b, f(a))), 0, nil, 0},
	} {
		e.try(t, "P13.1", Into)
	}
}

// The order hangs on the signature.
func TestWeightsP13_1(t *testing.T) {
	g := toy()
	c, d := list(eq(fun(1), fun(2))), list(p(fun(1)))
	if l, _, _ := Into(g, c, d, 0); len(l) != 0 {
		t.Errorf("P13.1: %v", l)
	}
	g[1].Weight = 9
	if l, _, _ := Into(g, c, d, 0); !sameGots(l, one(0, 0, at(0, 0), nil, p(fun(2)))) {
		t.Errorf("P13.1: %v", l)
	}
}

func TestEligibleP13_1(t *testing.T) {
	a, b := fun(1), fun(2)
	for _, e := range []example{
		{"a greater literal in c", list(p(x(0)), p(f(x(0)))), list(notP(x(0))), 0, one(1, 0, at(0), to(1, f(x(0))), p(x(0))), 0},
		{"a greater literal in c by the unifier", list(p(x(0)), p(g(x(1), x(1)))), list(notP(f(a))), 0, nil, 0},
		{"no greater literal in c by the unifier", list(p(x(0)), p(g(x(1), x(1)))), list(notP(fun(9))), 0, one(0, 0, at(0), to(0, fun(9)), p(g(x(0), x(0)))), 0},
		{"c's literal twice", list(p(a), p(a)), list(notP(a)), 0, nil, 0},
		{"c's literal twice by the unifier", list(p(x(0)), p(a)), list(notP(a)), 0, one(1, 0, at(0), nil, p(x(0))), 0},
		{"a negative literal in c", list(p(f(x(0))), notP(x(0))), list(notP(f(a))), 0, one(0, 0, at(0), to(0, a), notP(a)), 0},
		{"the same one, greater", list(p(f(x(0))), notP(f(x(0)))), list(notP(f(a))), 0, nil, 0},
		{"the first of c is selected", list(p(f(x(0))), notP(x(0))), list(notP(f(a))), 1, nil, 0},
		{"the heaviest of c is selected", list(p(f(x(0))), notP(x(0))), list(notP(f(a))), 2, nil, 0},
		{"none of c is negative", list(p(f(x(0))), p(x(0))), list(notP(f(a))), 1, one(0, 0, at(0), to(0, a), p(a)), 0},
		{"d's greatest", list(p(x(0))), list(notP(a), notP(f(a))), 0, one(0, 1, at(0), to(0, f(a)), notP(a)), 0},
		{"d's first", list(p(x(0))), list(notP(a), notP(f(a))), 1, one(0, 0, at(0), to(0, a), notP(f(a))), 0},
		{"d's heaviest", list(p(x(0))), list(notP(a), notP(f(a)), notP(b)), 2, one(0, 1, at(0), to(0, f(a)), notP(a), notP(b)), 0},
		{"not selected in d", list(eq(f(x(0)), a)), list(p(f(f(b))), notP(b)), 1, nil, 0},
		{"a lesser literal of d", list(eq(b, a)), list(p(b), p(f(b))), 0, one(0, 1, at(0, 0, 0), nil, p(b), p(f(a))), 0},
		{"d's literal twice", list(eq(f(x(0)), a)), list(p(f(b)), p(f(b))), 0, nil, 0},
		{"d's negative literal twice", list(eq(f(x(0)), a)), list(notP(f(b)), notP(f(b))), 0, []api.Got{got(0, 0, at(0, 0), to(0, b), notP(a), notP(f(b))), got(0, 1, at(0, 0), to(0, b), notP(f(b)), notP(a))}, 0},
		{"d's literal twice by the unifier", list(eq(f(b), a)), list(p(f(x(0))), p(f(b))), 0, one(0, 1, at(0, 0), nil, p(f(x(0))), p(a)), 0},
	} {
		e.try(t, "P13.1", Into)
	}
}

func TestConclusionP13_1(t *testing.T) {
	a, b := fun(1), fun(2)
	for _, e := range []example{
		{"c ahead of d", list(p(b), p(f(f(x(0)))), p(x(0))), list(p(g(a, a)), notP(f(f(a))), p(f(b))), 1, one(1, 1, at(0), to(0, a), p(b), p(a), p(g(a, a)), p(f(b))), 0},
		{"the literal of d in its place", list(eq(f(x(0)), a), p(a)), list(notP(b), notP(f(f(b))), notP(f(b))), 2, one(0, 1, at(0, 0), to(0, f(b)), p(a), notP(b), notP(a), notP(f(b))), 0},
		{"one literal remains of two", list(p(f(x(0))), p(x(0))), list(notP(f(b)), p(b)), 1, one(0, 0, at(0), to(0, b), p(b)), 0},
		{"what never holds", list(eq(f(x(0)), a)), list(ne(f(b), a), ne(f(x(1)), f(b))), 1, one(0, 0, at(0), to(0, b), ne(f(x(0)), f(b))), 0},
		{"a tautology", list(eq(f(x(0)), a), notP(a)), list(p(f(f(b)))), 0, one(0, 0, at(0, 0), to(0, f(b)), notP(a), p(a)), 0},
	} {
		e.try(t, "P13.1", Into)
	}
}

// i varies slowest, then l, k, s, and p.
func TestOrderOfConclusionsP13_1(t *testing.T) {
	c := list(eq(x(0), x(1)), eq(x(2), x(3)))
	side := func(n int) api.Term { return g(f(x(n)), fun(1)) }
	d := list(eq(side(0), side(1)), eq(side(2), side(3)))
	l, lost, err := Into(toy(), c, d, 0)
	n := 0
	for i := range 2 {
		for from := range 2 {
			for k := range 2 {
				for into := range 2 {
					for _, position := range [][]int{nil, {0}, {1}} {
						if n >= len(l) {
							t.Fatalf("P13.1: %v", l)
						}
						if l[n].Lits != [2]int{i, k} || l[n].By[0].Var != 2*i+from || !slices.Equal(l[n].Place, append([]int{into}, position...)) {
							t.Errorf("P13.1: %d: %v", n, l[n])
						}
						n++
					}
				}
			}
		}
	}
	if len(l) != n || lost != 0 || err != api.OK {
		t.Errorf("P13.1: %v, %d, %d", l, lost, err)
	}
}

func TestLostPremisesP13_1(t *testing.T) {
	a, b := fun(1), fun(2)
	q := func(s, t api.Term) api.Term { return fun(7, s, t) }
	heavy := broad(20, a)
	for _, e := range []example{
		{"a unifier that is too deep", list(holds(q(x(0), chain(30, x(0))))), list(denied(q(chain(30, x(0)), x(1)))), 0, nil, 1},
		{"a unifier that is too long", list(holds(q(x(0), broad(28, x(0))))), list(denied(q(broad(28, x(0)), x(1)))), 0, nil, 1},
		{"no unifier at all", list(holds(q(x(0), a))), list(denied(q(chain(30, x(0)), b))), 0, nil, 0},
		{"c becomes too deep", list(holds(q(heavy, x(0))), notP(chain(30, x(0)))), list(denied(q(heavy, chain(9, a)))), 0, nil, 1},
		{"c stays as deep as it may", list(holds(q(heavy, x(0))), notP(chain(30, x(0)))), list(denied(q(heavy, chain(8, a)))), 0, one(0, 0, at(0), to(0, chain(8, a)), notP(chain(38, a))), 0},
		{"c becomes too long", list(p(x(0)), eq(broad(57, x(0)), b)), list(notP(f(a))), 0, nil, 1},
		{"c stays as long as it may", list(p(x(0)), eq(broad(57, x(0)), b)), list(notP(a)), 0, nil, 0},
		{"c's own literal becomes too deep", list(holds(q(chain(30, x(0)), x(0)))), list(denied(q(x(0), chain(9, a)))), 0, nil, 1},
		{"d becomes too deep", list(holds(q(heavy, chain(9, a)))), list(denied(q(heavy, x(0))), notP(chain(30, x(0)))), 0, nil, 1},
		{"d stays as deep as it may", list(holds(q(heavy, chain(8, a)))), list(denied(q(heavy, x(0))), notP(chain(30, x(0)))), 0, one(0, 0, at(0), to(0, chain(8, a)), notP(chain(38, a))), 0},
		{"d becomes too long", list(p(f(a))), list(notP(x(0)), eq(broad(57, x(0)), b)), 1, nil, 1},
		{"d stays as long as it may", list(p(a)), list(notP(x(0)), eq(broad(57, x(0)), b)), 1, one(0, 0, at(0), to(0, a), eq(broad(57, a), b)), 0},
		{"both become too deep", list(holds(q(x(0), chain(15, a))), p(chain(30, x(0)))), list(denied(q(chain(15, a), x(0))), p(chain(30, x(0)))), 1, nil, 1},
		{"several", list(p(x(0)), p(chain(30, x(0))), p(x(0))), list(notP(chain(9, a)), notP(chain(10, a))), 0, nil, 4},
	} {
		e.try(t, "P13.1", Into)
	}
}

// Premises that exceed a limit are counted whatever the order and the selection are.
func TestLostAheadOfOrderP13_1(t *testing.T) {
	a, b, c, over := fun(1), fun(2), fun(9), p(chain(30, x(0)))
	deep := func(n int) api.Term { return g(a, chain(n, a)) }
	for _, e := range []example{
		{"l less than r", list(eq(g(a, x(0)), deep(12)), over), list(notP(deep(9))), 0, nil, 1},
		{"l less than r, not as deep", list(eq(g(a, x(0)), deep(12)), over), list(notP(deep(8))), 0, nil, 0},
		{"s less than t", list(eq(g(a, x(0)), b), over), list(ne(deep(9), chain(20, c))), 0, nil, 1},
		{"s less than t, not as deep", list(eq(g(a, x(0)), b), over), list(ne(deep(8), chain(20, c))), 0, nil, 0},
		{"not maximal in c", list(p(x(0)), over), list(notP(chain(9, a))), 0, nil, 1},
		{"not maximal in c, not as deep", list(p(x(0)), over), list(notP(chain(8, a))), 0, nil, 0},
		{"not selected in d", list(p(x(0)), over), list(denied(fun(8)), notP(chain(9, a))), 1, nil, 1},
		{"not selected in d, not as deep", list(p(x(0)), over), list(denied(fun(8)), notP(chain(8, a))), 1, nil, 0},
		{"a unifier, not selected in d", list(eq(g(x(0), chain(30, x(0))), a)), list(denied(fun(8)), notP(g(chain(30, x(0)), x(1)))), 1, nil, 1},
		{"selected in c", list(p(x(0)), over, notP(b)), list(notP(chain(9, a))), 1, nil, 0},
		{"negative in c", list(notP(x(0)), over), list(p(chain(9, a))), 0, nil, 0},
	} {
		e.try(t, "P13.1", Into)
	}
}

// A conclusion may exceed a limit though its premises do not.
func TestLostConclusionsP13_1(t *testing.T) {
	a, b, c := fun(1), fun(2), fun(9)
	heavy := func(s api.Term) api.Term { return g(s, broad(20, b)) }
	deepen := list(eq(heavy(x(0)), chain(20, x(0))))
	lengthen := list(eq(g(x(0), c), broad(50, x(1))))
	long := func(n int) []api.Lit { return list(denied(fun(7, g(x(0), c), chain(n, broad(6, a))))) }
	below := func(n int) []int { return append(at(0, 0), make([]int, n)...) }
	for _, e := range []example{
		{"too deep", deepen, list(notP(chain(19, heavy(x(0))))), 0, nil, 1},
		{"as deep as it may be", deepen, list(notP(chain(18, heavy(x(0))))), 0, one(0, 0, below(18), to(1, x(0)), notP(chain(38, x(0)))), 0},
		{"too deep, but not selected", deepen, list(denied(fun(8)), notP(chain(19, heavy(x(0))))), 1, nil, 0},
		{"too deep by the unifier", deepen, list(notP(chain(15, heavy(chain(4, a))))), 0, nil, 1},
		{"by the unifier as deep as it may be", deepen, list(notP(chain(15, heavy(chain(3, a))))), 0, one(0, 0, below(15), to(0, chain(3, a)), notP(chain(38, a))), 0},
		{"too long", lengthen, long(6), 0, nil, 1},
		{"as long as it may be", lengthen, long(5), 0, one(0, 0, at(0, 0), to(2, x(0)), denied(fun(7, broad(50, x(0)), chain(5, broad(6, a))))), 0},
	} {
		e.try(t, "P13.1", Into)
	}
}

// many is a first literal and n other ones, all different.
func many(first api.Lit, n int, other func(api.Term) api.Lit, end api.Term) []api.Lit {
	c := list(first)
	for i := range n {
		c = append(c, other(chain(i, end)))
	}
	return c
}

// The conclusion may have 32 literals, whatever Tidy takes away ahead of it.
func TestManyLiteralsP13_1(t *testing.T) {
	a, b, heavy := fun(1), fun(2), broad(10, fun(1))
	for _, e := range []struct {
		name     string
		c, d     []api.Lit
		literals int // 0: lost
	}{
		{"33", many(eq(heavy, a), 16, p, a), many(notP(heavy), 16, notP, b), 0},
		{"32", many(eq(heavy, a), 15, p, a), many(notP(heavy), 16, notP, b), 32},
		{"62", many(eq(heavy, a), 31, p, a), many(notP(heavy), 30, notP, b), 0},
		{"33 of atoms", many(p(heavy), 17, p, a), many(notP(heavy), 16, p, b), 0},
		{"32 of atoms, and one that never holds", many(p(heavy), 16, p, a), many(notP(heavy), 16, p, b), 32},
		{"the same ones in both", many(p(heavy), 31, p, a), many(notP(heavy), 31, p, a), 31},
	} {
		l, lost, err := Into(toy(), e.c, e.d, 0)
		if err != api.OK || len(l)+lost != 1 || (lost == 1) != (e.literals == 0) || len(l) == 1 && len(l[0].Clause) != e.literals {
			t.Errorf("P13.1: %s: %v, %d, %d", e.name, l, lost, err)
		}
	}
}

// All pairs of 32 literals are tried.
func TestAllPairsP13_1(t *testing.T) {
	var c, d []api.Lit
	for n := range 32 {
		c = append(c, p(x(n)))
		d = append(d, notP(x(n)))
	}
	if l, lost, err := Into(toy(), c, d, 0); len(l) != 0 || lost != 32*32 || err != api.OK {
		t.Errorf("P13.1: %d, %d, %d", len(l), lost, err)
	}
	l, lost, err := Into(toy(), c, d[:1], 0)
	if len(l) != 32 || lost != 0 || err != api.OK {
		t.Fatalf("P13.1: %d, %d, %d", len(l), lost, err)
	}
	for i, made := range l {
		if made.Lits != [2]int{i, 0} || len(made.Clause) != 31 {
			t.Errorf("P13.1: %d: %v", i, made)
		}
	}
}

func TestBothP13_2(t *testing.T) {
	a, b := fun(1), fun(2)
	twice := list(eq(f(f(x(0))), f(a)))
	deep := list(holds(fun(7, x(0), chain(30, x(0)))), p(x(1)))
	for _, e := range []example{
		{"one way", list(eq(f(x(0)), x(0))), list(p(f(a))), 0, one(0, 0, at(0, 0), to(0, a), p(a)), 0},
		{"the other way", list(p(f(a))), list(eq(f(x(0)), x(0))), 0, one(0, 0, at(0, 0), to(0, a), p(a)), 0},
		{"there and back", list(eq(f(x(0)), b)), list(eq(f(a), a)), 0, []api.Got{got(0, 0, at(0), to(0, a), eq(b, a)), got(0, 0, at(0), to(0, a), eq(a, b))}, 0},
		{"of itself", twice, twice, 0, []api.Got{
			got(0, 0, at(0), to(1, x(0)), eq(f(a), f(a))), got(0, 0, at(0, 0), to(1, f(x(0))), eq(f(f(a)), f(a))),
			got(0, 0, at(0), to(1, x(0)), eq(f(a), f(a))), got(0, 0, at(0, 0), to(1, f(x(0))), eq(f(f(a)), f(a)))}, 0},
		{"selected in one", list(p(a), notP(b)), list(notP(a), p(b)), 1, nil, 0},
		{"selected in the other", list(p(f(a))), list(notP(x(0)), eq(a, b)), 2, one(0, 0, at(0), to(0, f(a)), eq(a, b)), 0},
		{"lost there", deep[:1], list(denied(fun(7, chain(30, x(0)), x(1)))), 0, nil, 1},
		{"lost back", list(denied(fun(7, chain(30, x(0)), x(1)))), deep[:1], 0, nil, 1},
		{"lost there and back", deep[:1], list(holds(fun(7, chain(30, x(0)), x(1)))), 0, nil, 2},
		{"lost beside a conclusion", deep, list(denied(fun(7, chain(30, x(0)), x(1))), notP(x(2))), 0, one(1, 1, at(0), to(4, x(1)), holds(fun(7, x(0), chain(30, x(0)))), denied(fun(7, chain(30, x(1)), x(2)))), 1},
		{"empty clauses", nil, nil, 0, nil, 0},
	} {
		e.try(t, "P13.2", Both)
	}
}

// small are literals few enough for all pairs of clauses of two of them.
func small() []api.Lit {
	a := fun(1)
	return list(eq(f(x(0)), a), ne(f(a), x(1)), eq(g(x(1), x(0)), f(x(0))), p(f(x(2))), notP(x(0)), eq(x(0), x(1)), holds(fun(7, a, x(1))))
}

// wide are more literals, few enough for all pairs of clauses of one of them with one of up to two of the small ones.
func wide() []api.Lit {
	a, b, c := fun(1), fun(2), fun(9)
	return list(eq(x(0), c), eq(b, f(b)), eq(f(f(x(0))), x(0)), ne(b, b), ne(g(f(x(1)), c), x(1)), eq(g(x(0), g(x(1), x(0))), g(x(1), x(0))),
		p(c), p(g(f(a), x(0))), notP(g(x(0), f(x(0)))), holds(fun(0)), denied(fun(0)), holds(fun(8)), denied(fun(8)), denied(fun(7, x(0), x(0))), holds(fun(7, f(x(0)), b)))
}

// great are literals by which a limit is exceeded.
func great() []api.Lit {
	a := fun(1)
	return list(p(x(0)), notP(chain(30, x(0))), notP(chain(9, a)), eq(g(x(0), chain(30, x(0))), a), p(g(chain(30, x(0)), x(1))), eq(g(x(0), x(0)), chain(12, x(0))), ne(broad(57, x(0)), a))
}

// pairs are clauses that are few enough to try all of them.
func pairs() [][2][]api.Lit {
	var all [][2][]api.Lit
	join := func(from, into [][]api.Lit) {
		for _, c := range from {
			for _, d := range into {
				all = append(all, [2][]api.Lit{c, d})
			}
		}
	}
	join(clauses(2, small()), clauses(2, small()))
	join(clauses(1, wide()), clauses(1, wide()))
	join(clauses(1, wide()), clauses(2, small()))
	join(clauses(2, small()), clauses(1, wide()))
	join(clauses(2, great()), clauses(1, great()))
	join(clauses(1, great()), clauses(2, great()))
	return all
}

// sparse are some of the pairs.
func sparse() [][2][]api.Lit {
	var some [][2][]api.Lit
	for n, pair := range pairs() {
		if n%7 == 0 {
			some = append(some, pair)
		}
	}
	return some
}

func TestSmallP13_1_P13_2(t *testing.T) {
	toy := toy()
	made, missed := 0, 0
	compare := func(promise string, infer, plain inference, pairs [][2][]api.Lit) {
		for _, pair := range pairs {
			for how := range 3 {
				want, miss, wrong := plain(toy, pair[0], pair[1], how)
				if l, lost, err := infer(toy, pair[0], pair[1], how); !sameGots(l, want) || lost != miss || err != wrong {
					t.Fatalf("%s: %v, %d: %v, %d, %d, not %v, %d, %d", promise, pair, how, l, lost, err, want, miss, wrong)
				}
				made += len(want)
				missed += miss
			}
		}
		if made < 2000 || missed < 200 {
			t.Errorf("%s: too few kinds: %d, %d", promise, made, missed)
		}
		made, missed = 0, 0
	}
	compare("P13.1", Into, plainInto, pairs())
	compare("P13.2", Both, plainBoth, sparse())
}

func TestWrongP13_1_P13_2(t *testing.T) {
	for n, infer := range []inference{Into, Both} {
		none := func(what string, g []api.Sym, c, d []api.Lit, how int, want api.Errno) {
			t.Helper()
			if l, lost, err := infer(g, c, d, how); l != nil || lost != 0 || err != want {
				t.Errorf("P13.%d: %s, %d: %v, %d, %d, not %d", n+1, what, how, l, lost, err, want)
			}
		}
		fine := [][]api.Lit{nil, list(p(x(0))), list(p(f(x(0))), notP(x(0))), list(eq(x(255), x(0)), p(x(7)))}
		wrongWays := []int{-1, 3, math.MinInt, math.MaxInt}
		for _, w := range faults() {
			for _, other := range append(fine, list(holds(x(0))), times(33, p(x(0))), list(eq(endless(), endless()))) {
				for _, how := range append(wrongWays, 0, 1, 2) {
					none("the first clause", toy(), w.clause, other, how, w.err)
				}
			}
			for _, other := range fine {
				for how := range 3 {
					none("the second clause", toy(), other, w.clause, how, w.err)
				}
				for _, how := range wrongWays {
					none("a way to select ahead of the second clause", toy(), other, w.clause, how, api.ErrArg)
				}
			}
		}
		for _, g := range wrongSignatures() {
			for _, c := range append(fine, times(33, p(x(0))), list(eq(endless(), endless()))) {
				none("a signature", g, c, fine[1], 0, api.ErrArg)
				none("a signature", g, fine[2], c, 7, api.ErrArg)
			}
		}
		for _, c := range fine {
			for _, how := range wrongWays {
				none("a way to select", toy(), c, fine[1], how, api.ErrArg)
			}
		}
	}
}

// There are not enough variables, be it that nothing would be concluded.
func TestNoVariableLeftP13_1(t *testing.T) {
	for _, e := range []struct {
		name string
		c, d []api.Lit
		err  api.Errno
	}{
		{"none", list(p(x(255))), list(notP(x(0))), api.ErrArg},
		{"one too few", list(p(x(254))), list(notP(x(0)), notP(x(1))), api.ErrArg},
		{"enough", list(p(x(253))), list(notP(x(0)), notP(x(1))), api.OK},
		{"enough when numbered anew", list(p(x(254))), list(notP(x(255)), notP(f(x(255)))), api.OK},
		{"none is needed", list(p(x(255))), list(notP(fun(1))), api.OK},
		{"selected in c", list(p(x(255)), notP(x(255))), list(notP(x(0))), api.ErrArg},
		{"no attempt", list(eq(x(255), x(255))), list(eq(x(0), x(0))), api.ErrArg},
	} {
		for how := range 3 {
			if l, lost, err := Into(toy(), e.c, e.d, how); err != e.err || err != api.OK && (l != nil || lost != 0) {
				t.Errorf("P13.1: %s, %d: %v, %d, %d, not %d", e.name, how, l, lost, err, e.err)
			}
		}
	}
}

func TestNoVariableLeftP13_2(t *testing.T) {
	near, far := list(p(f(x(0)))), list(notP(x(255)))
	if l, _, err := Into(toy(), near, far, 0); len(l) != 1 || err != api.OK {
		t.Errorf("P13.1: %v, %d", l, err)
	}
	for _, pair := range [][2][]api.Lit{{near, far}, {far, near}} {
		if l, lost, err := Both(toy(), pair[0], pair[1], 0); l != nil || lost != 0 || err != api.ErrArg {
			t.Errorf("P13.2: %v, %d, %d", l, lost, err)
		}
	}
}

func TestConclusionsHoldP13_3(t *testing.T) {
	a, b := fun(1), fun(2)
	pool := list(eq(a, f(x(0))), ne(f(x(0)), a), eq(x(2), x(0)), eq(f(x(1)), b), ne(f(f(x(1))), x(0)), p(f(x(2))), notP(x(1)), holds(fun(8)), denied(fun(8)))
	all := worlds()
	tried, told := 0, 0
	for _, c := range clauses(2, pool) {
		for _, d := range clauses(2, pool) {
			l, _, _ := Into(toy(), c, d, len(d)%3)
			if len(l) == 0 {
				continue
			}
			for _, w := range all {
				both := w.holds(c) && w.holds(d)
				for _, made := range l {
					switch holds := w.holds(made.Clause); {
					case both && !holds:
						t.Fatalf("P13.3: %v and %v hold in %v, but %v does not", c, d, w, made)
					case both:
						tried++
					case !holds:
						told++
					}
				}
			}
		}
	}
	if tried < 10000 || told < 10000 {
		t.Errorf("P13.3: too few: %d, %d", tried, told)
	}
}

func TestEmptyClauseP13_3(t *testing.T) {
	ground := []api.Term{fun(1), fun(2), fun(9), f(fun(1)), g(fun(2), f(fun(9))), broad(56, fun(1)), chain(38, fun(2))}
	atoms := []api.Term{fun(8)}
	for _, s := range ground {
		atoms = append(atoms, fun(6, s), fun(7, fun(1), s))
	}
	for _, atom := range atoms {
		c, d := list(holds(atom)), list(denied(atom))
		want := one(0, 0, at(0), nil)
		for how := range 3 {
			example{"there", c, d, how, want, 0}.try(t, "P13.3", Into)
			example{"there and back", c, d, how, want, 0}.try(t, "P13.3", Both)
			example{"back and there", d, c, how, want, 0}.try(t, "P13.3", Both)
		}
		for _, other := range atoms {
			if !term.Same(atom, other) {
				example{"another atom", c, list(denied(other)), 0, nil, 0}.try(t, "P13.3", Into)
			}
		}
	}
}

// Nothing that is handed in is written to, and what is answered is in memory of its own.
func TestApartR2(t *testing.T) {
	for _, infer := range []inference{Into, Both} {
		for _, pair := range sparse() {
			c, d, g := copied(pair[0]), copied(pair[1]), toy()
			l, lost, err := infer(g, c, d, 0)
			want, _, _ := infer(g, copied(c), copied(d), 0)
			for n := range l {
				overwrite(l[n])
				if !sameGots(l[n+1:], want[n+1:]) {
					t.Fatalf("R2: %v: conclusions share memory", pair)
				}
			}
			again, missed, wrong := infer(g, c, d, 0)
			if !identical(c, pair[0]) || !identical(d, pair[1]) || !slices.Equal(g, toy()) || !sameGots(again, want) || missed != lost || wrong != err {
				t.Fatalf("R2: %v was changed: %v, %v, %v; %v, not %v", pair, c, d, g, again, want)
			}
		}
	}
}

// A clause may be handed in twice.
func TestOneClauseR2(t *testing.T) {
	for _, c := range clauses(2, small()) {
		want, _, _ := Both(toy(), c, copied(c), 0)
		if l, _, _ := Both(toy(), c, c, 0); !sameGots(l, want) {
			t.Fatalf("R2: %v: %v, not %v", c, l, want)
		}
	}
}

// The lists of one conclusion share no memory either.
func TestListsApartR2(t *testing.T) {
	for _, pair := range sparse() {
		l, _, _ := Into(toy(), pair[0], pair[1], 0)
		want, _, _ := Into(toy(), pair[0], pair[1], 0)
		for n := range l {
			overwrite(api.Got{By: l[n].By, Place: l[n].Place})
			if !identical(l[n].Clause, want[n].Clause) {
				t.Fatalf("R2: %v: %v, not %v", pair, l[n].Clause, want[n].Clause)
			}
			for i := range l[n].Clause {
				spoil(l[n].Clause[i].L)
				if !term.Same(l[n].Clause[i].R, want[n].Clause[i].R) || !identical(l[n].Clause[i+1:], want[n].Clause[i+1:]) {
					t.Fatalf("R2: %v: the sides of %v share memory", pair, want[n].Clause)
				}
				spoil(l[n].Clause[i].R)
			}
		}
	}
}

// No call hangs on the calls before it, with whatever signature.
func TestAgainR3(t *testing.T) {
	heavy := toy()
	heavy[1].Weight = 9
	c, d := list(eq(fun(1), fun(2))), list(p(fun(1)))
	for range 3 {
		for n, g := range [][]api.Sym{toy(), heavy} {
			for _, infer := range []inference{Into, Both} {
				if l, lost, err := infer(g, c, d, 0); len(l) != n || lost != 0 || err != api.OK {
					t.Errorf("R3: %v, %d, %d", l, lost, err)
				}
				infer(nil, c, d, 0)
				infer(g, great(), great(), 0)
				infer(g, c, list(p(endless())), 7)
			}
		}
	}
}

// What is concluded is a valid clause, numbered anew, by a unifier that leaves its variables behind.
func TestConclusionsValidP13_1(t *testing.T) {
	for _, pair := range sparse() {
		l, _, _ := Into(toy(), pair[0], pair[1], 0)
		for _, made := range l {
			if norm, err := clause.Norm(clause.Tidy(made.Clause)); err != api.OK || !identical(norm, made.Clause) || clause.Check(toy(), made.Clause) != api.OK {
				t.Fatalf("P13.1: %v: %v", pair, made)
			}
		}
	}
}
