package bank

import (
	"fmt"
	"math"
	"slices"
	"testing"

	"elenchus/api"
	"elenchus/term"
)

func fun(head int, args ...api.Term) api.Term { return api.Term{Head: head, Args: args} }

func x(n int, args ...api.Term) api.Term { return api.Term{Head: -1 - n, Args: args} }

func terms(list ...api.Term) []api.Term { return list }

// chain is f(f(.. (end))), of n levels above the end.
func chain(n int, end api.Term) api.Term {
	for range n {
		end = fun(3, end)
	}
	return end
}

// doubled is a full binary tree of n levels above the end, its lists shared on every level.
func doubled(n int, end api.Term) api.Term {
	for range n {
		end = fun(4, end, end)
	}
	return end
}

// broadFrom is the ith of n subterms that are counted level by level, no more than 8 Args anywhere; each has a Head of its own.
func broadFrom(i, n int) api.Term {
	t := fun(i)
	for k := 8*i + 1; k <= 8*i+8 && k < n; k++ {
		t.Args = append(t.Args, broadFrom(k, n))
	}
	return t
}

// endless holds itself.
func endless() api.Term {
	args := make([]api.Term, 1)
	args[0] = fun(3, args...)
	return args[0]
}

// wrongTerms are terms that are not valid, of every kind that layer 1 knows; those without measure stand last, so that a test that ends at its first fault does not go into them.
func wrongTerms() []api.Term {
	return terms(x(256), fun(1024), fun(2000), fun(math.MaxInt), fun(math.MinInt), x(0, fun(1)), fun(3, x(0, x(1))), fun(3, x(256)), fun(4, fun(1), fun(1024)),
		fun(5, slices.Repeat(terms(fun(1)), 9)...), fun(5, slices.Repeat(terms(fun(1)), 399)...), broadFrom(0, 401), chain(40, x(0)), doubled(300, x(0)), endless())
}

// samples are all valid terms of size 4 or less over three variables and two Heads, and some of other kinds; some are the same.
func samples() []api.Term {
	bySize := [][]api.Term{nil, terms(x(0), x(1), x(2), fun(1), fun(2)), nil, nil, nil}
	for n := 2; n <= 4; n++ {
		for _, a := range bySize[n-1] {
			bySize[n] = append(bySize[n], fun(3, a))
		}
		for first := 1; first < n-1; first++ {
			for _, a := range bySize[first] {
				for _, b := range bySize[n-1-first] {
					bySize[n] = append(bySize[n], fun(4, a, b))
				}
			}
		}
	}
	return append(slices.Concat(bySize...), others()...)
}

// others are terms that a key could take for one another, and those at the limits of layer 1.
func others() []api.Term {
	zero := fun(0)
	return terms(zero, fun(0, zero), fun(0, zero, zero), fun(0, fun(0, zero)), fun(0, slices.Repeat(terms(zero), 7)...), fun(0, slices.Repeat(terms(zero), 8)...),
		x(0), fun(0, x(0)), fun(0, x(0), zero), fun(0, zero, x(0)), fun(3), fun(4, x(0)), fun(4, x(2), x(1), x(0)), fun(5, x(2), x(1), x(0)), fun(5, x(2), x(0), x(1)),
		api.Term{Head: 1, Args: terms()}, api.Term{Head: -2, Args: terms()}, fun(3, api.Term{Head: 1, Args: terms()}),
		x(255), fun(1023), fun(1023, x(255)), chain(39, x(0)), chain(39, fun(1)), broadFrom(0, 400), doubled(7, fun(1)), fun(4, doubled(6, x(0)), doubled(6, x(1))))
}

// grown is a term over six variables, its shape told by the digits of the seed; what is left of the seed comes back.
func grown(depth int, seed uint64) (api.Term, uint64) {
	digit := seed % 11
	seed /= 11
	if digit < 5 || depth == 0 {
		return x(int(digit) % 6), seed
	}
	t := fun(int(digit))
	for range digit % 4 {
		var arg api.Term
		arg, seed = grown(depth-1, seed)
		t.Args = append(t.Args, arg)
	}
	return t, seed
}

// scattered is a row of seeds, the same in every run.
func scattered(n int) []uint64 {
	seeds := make([]uint64, n)
	state := uint64(1)
	for i := range seeds {
		for range 2 {
			state = state*6364136223846793005 + 1442695040888963407
			seeds[i] = seeds[i]<<32 ^ state>>21
		}
	}
	return seeds
}

// plain is a bank by the words of the document: a list of terms, in which a text of each tells whether it is kept.
type plain struct {
	list []api.Term
	at   map[string]int
}

func (p *plain) find(t api.Term) (int, bool) {
	n, kept := p.at[fmt.Sprint(t)]
	return n, kept
}

func (p *plain) put(t api.Term) (int, api.Errno) {
	if term.Check(t) != api.OK {
		return 0, api.ErrArg
	}
	if n, kept := p.find(t); kept {
		return n, api.OK
	}
	for _, arg := range t.Args {
		if _, err := p.put(arg); err != api.OK {
			return 0, err
		}
	}
	if len(p.list) == 4096 {
		return 0, api.ErrFull
	}
	n := len(p.list)
	p.list = append(p.list, term.Copy(t))
	p.at[fmt.Sprint(t)] = n
	return n, api.OK
}

func (p *plain) args(n int) []int {
	var list []int
	for _, arg := range p.list[n].Args {
		list = append(list, p.at[fmt.Sprint(arg)])
	}
	return list
}

// wantSame holds all that a bank answers against the plain one.
func wantSame(t *testing.T, name string, b *Bank, p *plain) {
	t.Helper()
	if b.Size() != len(p.list) {
		t.Fatalf("%s: Size %d, not %d", name, b.Size(), len(p.list))
	}
	for n, want := range p.list {
		if got, err := b.Term(n); err != api.OK || !term.Same(got, want) {
			t.Fatalf("%s: Term(%d): %v, %d, not %v", name, n, got, err, want)
		}
		if got, err := b.Args(n); err != api.OK || !slices.Equal(got, p.args(n)) {
			t.Fatalf("%s: Args(%d): %v, %d, not %v", name, n, got, err, p.args(n))
		}
		if got, kept := b.Find(want); got != n || !kept {
			t.Fatalf("%s: Find(%v): %d, %v, not %d", name, want, got, kept, n)
		}
	}
	wantNone(t, name, b, -1, len(p.list), len(p.list)+1, 4096, math.MaxInt, math.MinInt)
}

func wantNone(t *testing.T, name string, b *Bank, ids ...int) {
	t.Helper()
	for _, id := range ids {
		if got, err := b.Term(id); got.Head != 0 || got.Args != nil || err != api.ErrNone {
			t.Fatalf("%s: Term(%d): %v, %d", name, id, got, err)
		}
		if got, err := b.Args(id); len(got) != 0 || err != api.ErrNone {
			t.Fatalf("%s: Args(%d): %v, %d", name, id, got, err)
		}
	}
}

// wantPut puts a term into both banks.
func wantPut(t *testing.T, name string, b *Bank, p *plain, u api.Term) {
	t.Helper()
	want, wantErr := p.put(u)
	if got, err := b.Put(u); got != want || err != wantErr || b.Size() != len(p.list) {
		t.Fatalf("%s: %v: %d, %d, Size %d, not %d, %d, Size %d", name, u, got, err, b.Size(), want, wantErr, len(p.list))
	}
}

func empty() (*Bank, *plain) { return New(), &plain{at: map[string]int{}} }

// filled are two banks with all but so many of the 4096 terms: constants with Heads from 0 on, and then each of them under 800, 801 and so on.
func filled(t *testing.T, room int) (*Bank, *plain) {
	b, p := empty()
	for n := 0; len(p.list) < 4096-room; n++ {
		u := fun(n)
		if n >= 800 {
			u = fun(n/800+799, fun(n%800))
		}
		wantPut(t, "P6.2: to fill", b, p, u)
	}
	return b, p
}

func TestNewP6_1(t *testing.T) {
	b := New()
	if b == nil {
		t.Fatal("P6.1: no bank")
	}
	if b.Size() != 0 {
		t.Errorf("P6.1: an empty bank of %d", b.Size())
	}
	for _, u := range samples() {
		if n, kept := b.Find(u); n != 0 || kept {
			t.Fatalf("P6.1: %v is in an empty bank: %d", u, n)
		}
	}
	wantNone(t, "P6.1: an empty bank", b, 0, 1, -1, 4095)
	// A bank is nothing that others share.
	other := New()
	b.Put(fun(4, fun(1), fun(2)))
	if b.Size() != 3 || other.Size() != 0 || New().Size() != 0 {
		t.Errorf("P6.1: sizes %d, %d, %d", b.Size(), other.Size(), New().Size())
	}
	if n, err := other.Put(fun(2)); n != 0 || err != api.OK || b.Size() != 3 {
		t.Errorf("P6.1: another bank: %d, %d, %d", n, err, b.Size())
	}
}

func TestSizeP6_1(t *testing.T) {
	var none *Bank
	if none.Size() != 0 {
		t.Errorf("P6.1: a nil bank of %d", none.Size())
	}
	b := New()
	for _, step := range []struct {
		put  api.Term
		want int
	}{{fun(1), 1}, {fun(1), 1}, {fun(3, fun(1)), 2}, {fun(4, fun(1), fun(2)), 4}, {fun(4, x(0), x(0)), 6}, {fun(1024), 6}, {broadFrom(0, 401), 6}, {chain(3, x(0)), 9}, {chain(40, x(1)), 9}} {
		b.Put(step.put)
		if b.Size() != step.want {
			t.Errorf("P6.1: after %v: %d, not %d", step.put, b.Size(), step.want)
		}
	}
}

// A Bank that New did not make is an empty one too: a call must not panic on it.
func TestZeroBankR1(t *testing.T) {
	for _, u := range samples() {
		var b Bank
		if n, kept := b.Find(u); n != 0 || kept || b.Size() != 0 {
			t.Fatalf("R1: %v in a zero bank: %d, %v", u, n, kept)
		}
		wantNone(t, "R1: a zero bank", &b, 0, -1)
		if n, err := b.Put(fun(1024)); n != 0 || err != api.ErrArg || b.Size() != 0 {
			t.Fatalf("R1: a wrong term into a zero bank: %d, %d", n, err)
		}
		p := &plain{at: map[string]int{}}
		wantPut(t, "R1: a zero bank", &b, p, u)
		wantSame(t, "R1: a zero bank", &b, p)
	}
}

// Neither a Bank nor its copy holds a number of which it has no term, whichever of them is put into.
func TestCopiedBankR1(t *testing.T) {
	b, p := empty()
	wantPut(t, "R1: a bank", b, p, fun(1))
	c := *b
	wantPut(t, "R1: the copy", &c, p, fun(3, fun(1)))
	wantPut(t, "R1: the bank itself", b, p, fun(4, fun(3, fun(1)), fun(2)))
	wantSame(t, "R1: the bank itself", b, p)
	wantSame(t, "R1: the copy", &c, p)
}

func TestPutP6_2(t *testing.T) {
	a, b := fun(1), fun(2)
	for _, c := range []struct {
		name string
		put  []api.Term
		want []int
	}{
		{"the document's example", terms(fun(4, a, fun(3, a)), a, fun(3, a)), []int{2, 0, 1}},
		{"one by one", terms(a, b, x(0), x(1)), []int{0, 1, 2, 3}},
		{"again", terms(a, a, b, a), []int{0, 0, 1, 0}},
		{"the zero term", terms(api.Term{}, a, fun(0), fun(0, api.Term{})), []int{0, 1, 0, 2}},
		{"Args in their order", terms(fun(4, b, a), a, b), []int{2, 1, 0}},
		{"the Args of the first ahead of the second", terms(fun(4, fun(3, a), b), a, fun(3, a), b), []int{3, 0, 1, 2}},
		{"one that is an Arg of the next", terms(fun(4, a, fun(4, a, b)), fun(4, a, b)), []int{3, 2}},
		{"Args that are kept already", terms(a, fun(3, a), fun(4, fun(3, a), b), b), []int{0, 1, 3, 2}},
		{"Args that are the same", terms(fun(5, a, a, a), a), []int{1, 0}},
		{"a part that comes twice", terms(fun(4, fun(3, x(0)), fun(4, fun(3, x(0)), x(0)))), []int{3}},
		{"an empty list", terms(api.Term{Head: 1, Args: terms()}, a, fun(1, a), api.Term{Head: -1, Args: terms()}, x(0)), []int{0, 0, 1, 2, 2}},
		{"Args in the opposite order", terms(fun(4, a, b), fun(4, b, a)), []int{2, 3}},
		{"other numbers of Args", terms(fun(4), fun(4, fun(4)), fun(4, fun(4), fun(4)), fun(4, fun(4), fun(4), fun(4))), []int{0, 1, 2, 3}},
		{"a variable and a symbol", terms(x(0), fun(0), x(1), fun(1)), []int{0, 1, 2, 3}},
		{"variables of other numbers", terms(fun(3, x(0)), fun(3, x(1)), x(1)), []int{1, 3, 2}},
		{"8 Args", terms(fun(5, x(7), x(6), x(5), x(4), x(3), x(2), x(1), x(0)), x(7), x(0)), []int{8, 0, 7}},
		{"depth 40", terms(chain(39, x(0)), chain(38, x(0)), x(0)), []int{39, 38, 0}},
		{"size 400", terms(broadFrom(0, 400), fun(0)), []int{399, 400}},
		{"greatest numbers", terms(x(255), fun(1023), fun(1023, x(255))), []int{0, 1, 2}},
	} {
		bank := New()
		for i, u := range c.put {
			if n, err := bank.Put(u); n != c.want[i] || err != api.OK {
				t.Errorf("P6.2: %s: term %d: %d, %d, not %d", c.name, i, n, err, c.want[i])
			}
		}
	}
}

func TestPutWrongP6_2(t *testing.T) {
	var none *Bank
	for _, u := range append(samples(), wrongTerms()...) {
		if n, err := none.Put(u); n != 0 || err != api.ErrNil {
			t.Fatalf("P6.2: into a nil bank: %d, %d", n, err)
		}
	}
	b, p := empty()
	wantPut(t, "P6.2", b, p, fun(4, fun(1), x(0)))
	// Also a term whose Args are kept: nothing of a wrong term is.
	for i, w := range wrongTerms() {
		if n, err := b.Put(w); n != 0 || err != api.ErrArg || b.Size() != 3 {
			t.Fatalf("P6.2: wrong term %d: %d, %d, Size %d", i, n, err, b.Size())
		}
	}
	for i, w := range wrongTerms() {
		if n, err := b.Put(fun(4, fun(2), w)); n != 0 || err != api.ErrArg || b.Size() != 3 {
			t.Fatalf("P6.2: behind a right Arg, wrong term %d: %d, %d, Size %d", i, n, err, b.Size())
		}
	}
	wantSame(t, "P6.2: after wrong terms", b, p)
}

func TestPutManyP6_2(t *testing.T) {
	b, p := empty()
	for i, seed := range scattered(3000) {
		u, _ := grown(5, seed)
		wantPut(t, "P6.2: many", b, p, u)
		if i%300 == 0 {
			wantSame(t, "P6.2: many", b, p)
		}
	}
	wantSame(t, "P6.2: at last", b, p)
	if b.Size() < 1000 {
		t.Errorf("P6.2: only %d terms", b.Size())
	}
}

func TestPutFullP6_2(t *testing.T) {
	a, b, c := fun(900), fun(901), fun(902)
	for _, k := range []struct {
		name string
		room int
		put  api.Term
		want int // how many remain
		err  api.Errno
	}{
		{"the last place", 1, a, 1, api.OK},
		{"no place", 0, a, 0, api.ErrFull},
		{"no place for a variable", 0, x(0), 0, api.ErrFull},
		{"no place, its Args kept", 0, fun(900, fun(1), fun(2)), 0, api.ErrFull},
		{"no place for a term with Args", 0, fun(900, b), 0, api.ErrFull},
		{"no place behind a kept Arg", 0, fun(900, fun(1), b, fun(2)), 0, api.ErrFull},
		{"the last two places", 2, fun(900, b), 2, api.OK},
		{"a place for the Arg alone", 1, fun(900, b), 1, api.ErrFull},
		{"a place for the first Arg alone", 1, fun(900, b, c), 1, api.ErrFull},
		{"two places, and none for the whole", 2, fun(900, b, c), 2, api.ErrFull},
		{"three places", 3, fun(900, b, c), 3, api.OK},
		{"a place for the Arg of the first Arg", 1, fun(900, fun(900, b), c), 1, api.ErrFull},
		{"two places for the first Arg", 2, fun(900, fun(900, b), c), 2, api.ErrFull},
		{"Args that are the same", 2, fun(900, b, b, b), 2, api.OK},
		{"the last place, its Args kept", 1, fun(900, fun(1), fun(2)), 1, api.OK},
		{"far too many", 5, chain(39, x(0)), 5, api.ErrFull},
		{"just enough", 40, chain(39, x(0)), 40, api.OK},
		{"one too many", 39, chain(39, x(0)), 39, api.ErrFull},
		{"a wrong term without a place", 0, fun(1024), 0, api.ErrArg},
		{"a wrong term with its Args kept", 0, fun(1024, fun(1)), 0, api.ErrArg},
		{"what is kept", 0, fun(800, fun(1)), 0, api.OK},
		{"what is kept, without Args", 0, fun(7), 0, api.OK},
	} {
		bank, p := filled(t, k.room)
		before := bank.Size()
		wantPut(t, "P6.2: "+k.name, bank, p, k.put)
		if _, err := bank.Put(k.put); err != k.err || bank.Size() != before+k.want {
			t.Errorf("P6.2: %s: %d, %d remain", k.name, err, bank.Size()-before)
		}
		wantSame(t, "P6.2: "+k.name, bank, p)
	}
}

// A full bank stays as it is, whatever else is put.
func TestPutIntoFullP6_2(t *testing.T) {
	b, p := filled(t, 17)
	full := 0
	for _, u := range append(samples(), wrongTerms()...) {
		wantPut(t, "P6.2: a full bank", b, p, u)
		if _, err := b.Put(u); err == api.ErrFull {
			full++
		}
	}
	if full < 100 || b.Size() != api.MaxBank {
		t.Errorf("P6.2: %d times full, Size %d", full, b.Size())
	}
	wantSame(t, "P6.2: a full bank", b, p)
}

func TestFindP6_3(t *testing.T) {
	b, p := empty()
	wantPut(t, "P6.3", b, p, fun(4, fun(1), fun(3, x(0))))
	wantPut(t, "P6.3", b, p, fun(0, fun(0)))
	for _, c := range []struct {
		find api.Term
		want int
		kept bool
	}{
		{fun(1), 0, true}, {x(0), 1, true}, {fun(3, x(0)), 2, true}, {fun(4, fun(1), fun(3, x(0))), 3, true}, {fun(0), 4, true}, {api.Term{}, 4, true}, {fun(0, fun(0)), 5, true},
		{api.Term{Head: 1, Args: terms()}, 0, true}, {api.Term{Head: -1, Args: terms()}, 1, true},
		{fun(2), 0, false}, {x(1), 0, false}, {fun(3), 0, false}, {fun(3, fun(1)), 0, false}, {fun(3, x(1)), 0, false}, {fun(1, fun(1)), 0, false}, {fun(1, x(0)), 0, false},
		{fun(4, fun(3, x(0)), fun(1)), 0, false}, {fun(4, fun(1)), 0, false}, {fun(4, fun(1), fun(3, x(0)), fun(1)), 0, false}, {fun(4, fun(1), fun(3, x(1))), 0, false}, {fun(4, fun(2), fun(3, x(0))), 0, false},
		{fun(0, fun(0), fun(0)), 0, false}, {fun(0, fun(0, fun(0))), 0, false},
	} {
		if n, kept := b.Find(c.find); n != c.want || kept != c.kept {
			t.Errorf("P6.3: Find(%v): %d, %v, not %d, %v", c.find, n, kept, c.want, c.kept)
		}
	}
	for _, u := range samples() {
		want, wantKept := p.find(u)
		if n, kept := b.Find(u); n != want || kept != wantKept {
			t.Errorf("P6.3: Find(%v): %d, %v, not %d, %v", u, n, kept, want, wantKept)
		}
	}
	// To ask is not to put.
	wantSame(t, "P6.3: after Find", b, p)
}

func TestFindWrongP6_3(t *testing.T) {
	var none *Bank
	b, p := empty()
	for _, u := range samples() {
		if n, kept := none.Find(u); n != 0 || kept {
			t.Fatalf("P6.3: %v in a nil bank: %d, %v", u, n, kept)
		}
		wantPut(t, "P6.3", b, p, u)
	}
	for i, w := range wrongTerms() {
		for _, bank := range []*Bank{none, New(), b} {
			if n, kept := bank.Find(w); n != 0 || kept {
				t.Fatalf("P6.3: wrong term %d: %d, %v", i, n, kept)
			}
			if n, kept := bank.Find(fun(3, w)); n != 0 || kept {
				t.Fatalf("P6.3: around wrong term %d: %d, %v", i, n, kept)
			}
		}
	}
	wantSame(t, "P6.3: after wrong terms", b, p)
}

func TestTermAndArgsP6_3(t *testing.T) {
	b := New()
	big := fun(5, x(0), fun(1), x(0), fun(3, fun(1)), x(1), fun(1), fun(1), x(0))
	if n, err := b.Put(big); n != 4 || err != api.OK {
		t.Fatalf("P6.3: %d, %d", n, err)
	}
	b.Put(fun(4, big, x(255)))
	for n, want := range []struct {
		term api.Term
		args []int
	}{{x(0), nil}, {fun(1), nil}, {fun(3, fun(1)), []int{1}}, {x(1), nil}, {big, []int{0, 1, 0, 2, 3, 1, 1, 0}}, {x(255), nil}, {fun(4, big, x(255)), []int{4, 5}}} {
		if got, err := b.Term(n); err != api.OK || !term.Same(got, want.term) {
			t.Errorf("P6.3: Term(%d): %v, %d, not %v", n, got, err, want.term)
		}
		if got, err := b.Args(n); err != api.OK || !slices.Equal(got, want.args) {
			t.Errorf("P6.3: Args(%d): %v, %d, not %v", n, got, err, want.args)
		}
	}
}

func TestTermAndArgsWrongP6_3(t *testing.T) {
	var none *Bank
	for _, id := range []int{0, 1, -1, 4095, 4096, math.MaxInt, math.MinInt} {
		if got, err := none.Term(id); got.Head != 0 || got.Args != nil || err != api.ErrNil {
			t.Errorf("P6.3: Term(%d) of a nil bank: %v, %d", id, got, err)
		}
		if got, err := none.Args(id); len(got) != 0 || err != api.ErrNil {
			t.Errorf("P6.3: Args(%d) of a nil bank: %v, %d", id, got, err)
		}
	}
	b := New()
	b.Put(fun(4, fun(1), fun(2)))
	wantNone(t, "P6.3: a bank of 3", b, -1, 3, 4, 4095, 4096, math.MaxInt, math.MinInt)
	full, _ := filled(t, 0)
	wantNone(t, "P6.3: a full bank", full, -1, 4096, 4097, math.MaxInt, math.MinInt)
	if _, err := full.Term(4095); err != api.OK {
		t.Errorf("P6.3: the last one: %d", err)
	}
}

func TestOneNumberOneTermP6_4(t *testing.T) {
	all, b, alike := samples(), New(), 0
	var numbers []int
	for _, u := range all {
		n, err := b.Put(u)
		if err != api.OK {
			t.Fatalf("P6.4: %v: %d", u, err)
		}
		numbers = append(numbers, n)
	}
	for i, u := range all {
		for k, v := range all {
			if (numbers[i] == numbers[k]) != term.Same(u, v) {
				t.Fatalf("P6.4: %v and %v: %d and %d", u, v, numbers[i], numbers[k])
			}
			if i != k && numbers[i] == numbers[k] {
				alike++
			}
		}
	}
	if alike == 0 {
		t.Error("P6.4: no two samples are the same")
	}
	for n := range b.Size() {
		u, _ := b.Term(n)
		for k := range n {
			if v, _ := b.Term(k); term.Same(u, v) {
				t.Fatalf("P6.4: %v is both %d and %d", u, n, k)
			}
		}
	}
}

// The numbers of a bank do not depend on how often its terms were asked for, and the order of putting changes numbers alone.
func TestOrderP6_4(t *testing.T) {
	all := samples()
	forth, back := New(), New()
	for i := range all {
		forth.Put(all[i])
		back.Put(all[len(all)-1-i])
	}
	if forth.Size() != back.Size() {
		t.Fatalf("P6.4: %d and %d terms", forth.Size(), back.Size())
	}
	for n := range forth.Size() {
		u, _ := forth.Term(n)
		if _, kept := back.Find(u); !kept {
			t.Errorf("P6.4: %v is in one only", u)
		}
	}
}

func TestArgsAreSmallerP6_4(t *testing.T) {
	b := New()
	for _, seed := range scattered(2000) {
		u, _ := grown(5, seed)
		b.Put(u)
	}
	for _, u := range samples() {
		b.Put(u)
	}
	for n := range b.Size() {
		u, _ := b.Term(n)
		args, _ := b.Args(n)
		if len(args) != len(u.Args) {
			t.Fatalf("P6.4: %v: %v", u, args)
		}
		for i, arg := range args {
			if v, err := b.Term(arg); arg < 0 || arg >= n || err != api.OK || !term.Same(v, u.Args[i]) {
				t.Fatalf("P6.4: %v, number %d: Arg %d is %d, %v", u, n, i, arg, v)
			}
		}
	}
}

func TestPutAgainP6_4(t *testing.T) {
	for _, room := range []int{0, 4096} {
		b, p := filled(t, room)
		for _, u := range samples() {
			wantPut(t, "P6.4", b, p, u)
		}
		for range 2 {
			for n, u := range slices.Clone(p.list) {
				if got, err := b.Put(u); got != n || err != api.OK || b.Size() != len(p.list) {
					t.Fatalf("P6.4: again %v: %d, %d, Size %d", u, got, err, b.Size())
				}
			}
			wantSame(t, "P6.4: again", b, p)
		}
	}
}

// spoil writes to every place of a term's memory, and appends within the capacity of its lists.
func spoil(t *api.Term) {
	t.Head += 1000
	for i := range t.Args {
		spoil(&t.Args[i])
	}
	_ = append(t.Args, fun(77))
}

// spoilParts spoils a term part by part, and reports whether each part was still as it should be when its turn came.
func spoilParts(t *api.Term, want api.Term) bool {
	for i := range t.Args {
		if !term.Same(t.Args[i], want.Args[i]) {
			return false
		}
		spoil(&t.Args[i])
	}
	spoil(t)
	return true
}

// What is handed in is neither changed nor kept, and whoever writes to an answer spoils nothing else.
func TestApartR2(t *testing.T) {
	b, p := empty()
	list := append(samples(), doubled(3, fun(3, x(0))), fun(5, doubled(2, fun(1)), doubled(2, fun(1))))
	for _, seed := range scattered(500) {
		u, _ := grown(5, seed)
		list = append(list, u)
	}
	for _, u := range list {
		own := term.Copy(u)
		b.Put(own)
		b.Find(own)
		if !term.Same(own, u) {
			t.Fatalf("R2: %v was changed to %v", u, own)
		}
		spoil(&own)
		p.put(u)
	}
	wantSame(t, "R2: after writing to what was put", b, p)
	for n, want := range p.list {
		u, _ := b.Term(n)
		if !spoilParts(&u, want) {
			t.Fatalf("R2: two parts of Term(%d), %v, share memory", n, want)
		}
		args, _ := b.Args(n)
		_ = append(args, 77)
		for i := range args {
			args[i] = -5
		}
	}
	wantSame(t, "R2: after writing to answers", b, p)
}

// An answer stays as it was while the bank grows.
func TestNotWrittenLaterR2(t *testing.T) {
	b, p := empty()
	wantPut(t, "R2", b, p, fun(4, fun(1), fun(3, fun(1))))
	u, _ := b.Term(2)
	args, _ := b.Args(2)
	for _, v := range samples() {
		b.Put(v)
	}
	if !term.Same(u, p.list[2]) || !slices.Equal(args, []int{0, 1}) {
		t.Errorf("R2: %v, %v", u, args)
	}
}
