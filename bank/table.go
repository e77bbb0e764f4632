package bank

import (
	"slices"

	"elenchus/api"
)

// row is a term whose Args are told by their numbers: since each term is kept once, terms are the same just if their rows are, and a row is the key of its own number.
type row struct {
	head  int
	count int // of the Args: the places behind them are 0
	args  [api.MaxArity]int
}

// table holds the rows by their numbers, and the numbers by their rows.
type table struct {
	rows    []row
	numbers map[row]int
}

func newTable() *table { return &table{numbers: map[row]int{}} }

// keep is the number of a valid term, added if it is new. A term that is kept has all its Args kept, so that going through them first adds nothing then.
func (k *table) keep(t api.Term) (int, api.Errno) {
	r := row{head: t.Head, count: len(t.Args)}
	for i, arg := range t.Args {
		id, err := k.keep(arg)
		if err != api.OK {
			return 0, err
		}
		r.args[i] = id
	}
	return k.add(r)
}

// add is the number of a row, the next one if it is new.
func (k *table) add(r row) (int, api.Errno) {
	if id, kept := k.numbers[r]; kept {
		return id, api.OK
	}
	id := len(k.rows)
	if id >= api.MaxBank {
		return 0, api.ErrFull
	}
	k.numbers[r] = id
	k.rows = append(k.rows, r)
	return id, api.OK
}

// search is the number of a valid term; false: it is not kept.
func (k *table) search(t api.Term) (int, bool) {
	r := row{head: t.Head, count: len(t.Args)}
	for i, arg := range t.Args {
		id, kept := k.search(arg)
		if !kept {
			return 0, false
		}
		r.args[i] = id
	}
	id, kept := k.numbers[r]
	return id, kept
}

// build makes the term of a number anew. Each number leads to smaller ones only, so that it ends.
func (k *table) build(id int) api.Term {
	t := api.Term{Head: k.rows[id].head}
	for _, arg := range k.args(id) {
		t.Args = append(t.Args, k.build(arg))
	}
	return t
}

// args lists the numbers of the Args in new memory.
func (k *table) args(id int) []int {
	r := k.rows[id]
	return slices.Clone(r.args[:r.count])
}
