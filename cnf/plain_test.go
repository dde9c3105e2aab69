package cnf_test

import (
	"math"
	"slices"
	"testing"

	"weirgate/cnf"
	"weirgate/graph"
)

// dice returns a function whose results depend on the seed alone.
func dice(seed uint64) func(n int) int {
	return func(n int) int {
		seed = seed*6364136223846793005 + 1442695040888963407
		return int(seed>>33) % n
	}
}

// foreign returns numbers that are no edges of a graph of n nodes.
func foreign(n int) []int {
	return []int{-1, -2, -3, -2 * n, -2*n - 1, 2 * n, 2*n + 1, 2*n + 2, 2*n + 3, 1 << 32, 1<<32 + 1, math.MaxInt, math.MaxInt - 1, math.MinInt, math.MinInt + 1}
}

// plain is a maker that keeps the needed nodes in a list, as the document says it: slow, and plain.
type plain struct {
	g       *graph.Graph
	nodes   []int // variable i + 1 is that of node i of this list
	clauses [][]int
}

func newPlain(g *graph.Graph) *plain {
	return &plain{g, []int{0}, [][]int{{-1}}}
}

func (p *plain) node(n int) int {
	if at := slices.Index(p.nodes, n); at >= 0 {
		return at + 1
	}
	e, f, isAnd := p.g.Node(n)
	if !isAnd {
		p.nodes = append(p.nodes, n)
		return len(p.nodes)
	}
	a := p.lit(e)
	b := p.lit(f)
	p.nodes = append(p.nodes, n)
	v := len(p.nodes)
	p.clauses = append(p.clauses, []int{-v, a}, []int{-v, b}, []int{v, -a, -b})
	return v
}

func (p *plain) lit(e int) int {
	switch {
	case e < 0 || e > 2*p.g.Nodes()-1:
		return p.lit(0)
	case e%2 == 0:
		return p.node(e / 2)
	}
	return -p.node((e - 1) / 2)
}

func (p *plain) take() [][]int {
	taken := p.clauses
	p.clauses = nil
	return taken
}

func (p *plain) inputs(model []bool) []bool {
	var values []bool
	for _, e := range p.g.Inputs() {
		at := slices.Index(p.nodes, e/2)
		values = append(values, at >= 0 && at < len(model) && model[at])
	}
	return values
}

// isTrue reports whether a literal is true, of any variable: those of layer 1 end with MaxVar.
func isTrue(l int, model []bool) bool {
	if l < 0 {
		return !model[-l-1]
	}
	return model[l-1]
}

// all reports whether each clause has a true literal.
func all(cs [][]int, model []bool) bool {
	return !slices.ContainsFunc(cs, func(c []int) bool {
		return !slices.ContainsFunc(c, func(l int) bool { return isTrue(l, model) })
	})
}

// equal reports whether both have the same clauses, in the same order, with the same order of literals.
func equal(a, b [][]int) bool {
	return slices.EqualFunc(a, b, func(c, d []int) bool { return slices.Equal(c, d) })
}

// grow adds an input, or some ands.
func grow(roll func(int) int, g *graph.Graph) {
	edge := func() int { return roll(2 * g.Nodes()) }
	switch roll(6) {
	case 0:
		g.Input()
	case 1:
		g.Xor(edge(), edge())
	case 2:
		g.Mux(edge(), edge(), edge())
	default:
		g.And(edge(), edge())
	}
}

// request returns an edge, or now and then a number that is none.
func request(roll func(int) int, n int) int {
	if roll(8) == 0 {
		strange := foreign(n)
		return strange[roll(len(strange))]
	}
	return roll(2 * n)
}

func bools(roll func(int) int, count int) []bool {
	bs := make([]bool, count)
	for i := range bs {
		bs[i] = roll(2) == 1
	}
	return bs
}

// TestAgainstPlain: two makers of a graph that grows meanwhile, each of them compared with its own plain one after each call.
func TestAgainstPlain(t *testing.T) {
	for seed := range uint64(400) {
		roll := dice(seed)
		g := graph.New()
		makers := []*cnf.Maker{cnf.New(g), cnf.New(g)}
		plains := []*plain{newPlain(g), newPlain(g)}
		for range 80 {
			m, p := makers[seed%2], plains[seed%2]
			if roll(3) == 0 {
				m, p = makers[1-seed%2], plains[1-seed%2]
			}
			switch roll(8) {
			case 0:
				if got, want := m.Take(), p.take(); !equal(got, want) {
					t.Fatalf("P7.1: seed %d: Take: %v; asked for: %v", seed, got, want)
				}
			case 1:
				model := bools(roll, roll(m.Vars()+3))
				if got, want := m.Inputs(model), p.inputs(model); !slices.Equal(got, want) {
					t.Fatalf("P7.2: seed %d: Inputs(%v): %v; asked for: %v", seed, model, got, want)
				}
			case 2, 3, 4, 5:
				grow(roll, g)
			default:
				e := request(roll, g.Nodes())
				if got, want := m.Lit(e), p.lit(e); got != want {
					t.Fatalf("P7.1: seed %d: Lit(%d): %d; asked for: %d", seed, e, got, want)
				}
			}
			for i := range makers {
				if makers[i].Vars() != len(plains[i].nodes) {
					t.Fatalf("P7.1: seed %d: %d variables; asked for: %d", seed, makers[i].Vars(), len(plains[i].nodes))
				}
			}
		}
		for i := range makers {
			if got, want := makers[i].Take(), plains[i].take(); !equal(got, want) {
				t.Fatalf("P7.1: seed %d: the last Take: %v; asked for: %v", seed, got, want)
			}
		}
	}
}
