package unify

import "elenchus/api"

// node is a variable, by its own number, or an occurrence of a term with a symbol, by a number from firstSymbol on.
type node int

const firstSymbol node = api.MaxVar + 1

func (n node) isVariable() bool { return n < firstSymbol }

// graph holds terms as nodes: each variable is one node, wherever it occurs, so that what stands for it is never copied.
type graph struct {
	symbols []symbol // of the nodes from firstSymbol on
	bound   bindings[node]
	vars    []node // the variables that are bound
}

// symbol is a term with a symbol, and the nodes of its Args, which are made when they are first asked for: most pairs of terms differ near the root.
type symbol struct {
	term api.Term
	args []node
}

// node makes a node of a valid term.
func (g *graph) node(t api.Term) node {
	if t.Head < 0 {
		return node(-1 - t.Head)
	}
	g.symbols = append(g.symbols, symbol{term: t})
	return firstSymbol + node(len(g.symbols)-1)
}

// args lists the nodes of the Args of a node's own term.
func (g *graph) args(n node) []node {
	if n.isVariable() {
		return nil
	}
	i := n - firstSymbol
	if s := g.symbols[i]; len(s.args) < len(s.term.Args) {
		args := make([]node, len(s.term.Args))
		for k, t := range s.term.Args {
			args[k] = g.node(t)
		}
		g.symbols[i].args = args
	}
	return g.symbols[i].args
}

// alike reports whether two terms with symbols have the same one, and as many Args.
func (g *graph) alike(a node, b node) bool {
	s, t := g.symbols[a-firstSymbol].term, g.symbols[b-firstSymbol].term
	return s.Head == t.Head && len(s.Args) == len(t.Args)
}

func (g *graph) bindVariable(v node, to node) {
	g.bound.bind(v, to)
	g.vars = append(g.vars, v)
}

// build makes the term that stands for a node in new memory, with all bindings carried out.
func (g *graph) build(n node) api.Term {
	n = g.bound.end(n)
	if n.isVariable() {
		return api.Term{Head: -1 - int(n)}
	}
	t := api.Term{Head: g.symbols[n-firstSymbol].term.Head}
	for _, arg := range g.args(n) {
		t.Args = append(t.Args, g.build(arg))
	}
	return t
}

// bindings tells of a thing which other one stands for it, by links from one to the next.
type bindings[N comparable] struct {
	to map[N]N
}

// bind lets one thing, which is not bound yet, be stood for by another, which does not lead back to it.
func (b *bindings[N]) bind(from N, to N) {
	if b.to == nil {
		b.to = map[N]N{}
	}
	b.to[from] = to
}

// end is what stands for a thing at the end of its links; the links are made shorter for the next time.
func (b *bindings[N]) end(n N) N {
	last := n
	for next, bound := b.to[last]; bound; next, bound = b.to[last] {
		last = next
	}
	for n != last {
		next := b.to[n]
		b.to[n] = last
		n = next
	}
	return last
}
