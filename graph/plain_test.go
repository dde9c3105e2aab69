package graph_test

import (
	"math"
	"slices"
	"testing"

	"weirgate/graph"
)

// dice returns a function whose results depend on the seed alone.
func dice(seed uint64) func(n int) int {
	return func(n int) int {
		seed = seed*6364136223846793005 + 1442695040888963407
		return int(seed>>33) % n
	}
}

// foreign returns numbers that are no edges of a graph of n nodes.
func foreign(n int) []int {
	return []int{-1, -2, -3, -2 * n, -2*n - 1, 2 * n, 2*n + 1, 2*n + 2, 2*n + 3, 1 << 32, 1<<32 + 1, 1<<32 + 2, math.MaxInt, math.MaxInt - 1, math.MinInt, math.MinInt + 1}
}

// node of a plain graph.
type node struct {
	input bool
	a, b  int // of an and, the lesser one first
}

// plain is a graph that looks through all its nodes each time, as the document says it: slow, and plain.
type plain struct {
	nodes []node
}

func newPlain() *plain {
	return &plain{[]node{{}}}
}

func (p *plain) add(n node) int {
	p.nodes = append(p.nodes, n)
	return 2 * (len(p.nodes) - 1)
}

// counted returns e, or 0 for what is no edge.
func (p *plain) counted(e int) int {
	if e < 0 || e > 2*len(p.nodes)-1 {
		return 0
	}
	return e
}

func opposite(e int) int {
	if e%2 == 0 {
		return e + 1
	}
	return e - 1
}

func (p *plain) and(a, b int) int {
	a, b = p.counted(a), p.counted(b)
	switch {
	case a == 0 || b == 0 || a == opposite(b):
		return 0
	case a == 1:
		return b
	case b == 1 || a == b:
		return a
	}
	n := node{false, min(a, b), max(a, b)}
	if at := slices.Index(p.nodes, n); at > 0 {
		return 2 * at
	}
	return p.add(n)
}

func (p *plain) or(a, b int) int {
	a, b = p.counted(a), p.counted(b)
	return opposite(p.and(opposite(a), opposite(b)))
}

func (p *plain) xor(a, b int) int {
	a, b = p.counted(a), p.counted(b)
	left := p.and(a, opposite(b))
	right := p.and(opposite(a), b)
	return p.or(left, right)
}

func (p *plain) mux(c, a, b int) int {
	c, a, b = p.counted(c), p.counted(a), p.counted(b)
	left := p.and(c, a)
	right := p.and(opposite(c), b)
	return p.or(left, right)
}

func (p *plain) all(es []int) int {
	r := 1
	for _, e := range es {
		r = p.and(r, e)
	}
	return r
}

func (p *plain) any(es []int) int {
	r := 0
	for _, e := range es {
		r = p.or(r, e)
	}
	return r
}

// holds is the value of one edge, worked out from the end.
func (p *plain) holds(model []bool, e int) bool {
	if e != p.counted(e) {
		return false
	}
	n := e / 2
	v := p.nodes[n].a > 0 && p.holds(model, p.nodes[n].a) && p.holds(model, p.nodes[n].b)
	if p.nodes[n].input {
		i := slices.Index(p.inputs(), 2*n)
		v = i < len(model) && model[i]
	}
	return v == (e%2 == 0)
}

func (p *plain) inputs() []int {
	var es []int
	for i, n := range p.nodes {
		if n.input {
			es = append(es, 2*i)
		}
	}
	return es
}

// agree fails if g does not have the nodes of p.
func agree(t *testing.T, g *graph.Graph, p *plain) {
	t.Helper()
	if g.Nodes() != len(p.nodes) || !slices.Equal(g.Inputs(), p.inputs()) {
		t.Fatalf("P5.3: %d nodes, inputs %v; asked for: %d, %v", g.Nodes(), g.Inputs(), len(p.nodes), p.inputs())
	}
	for i, n := range p.nodes {
		if a, b, ok := g.Node(i); a != n.a || b != n.b || ok != (n.a > 0) {
			t.Fatalf("P5.3: node %d: %d, %d, %v; asked for: %v", i, a, b, ok, n)
		}
	}
}

// edge returns an edge of a graph of n nodes, or now and then a number that is none.
func edge(roll func(int) int, n int) int {
	if roll(6) == 0 {
		strange := foreign(n)
		return strange[roll(len(strange))]
	}
	return roll(2 * n)
}

func edges(roll func(int) int, n, most int) []int {
	es := make([]int, roll(most+1))
	for i := range es {
		es[i] = edge(roll, n)
	}
	return es
}

func inputs(roll func(int) int, count int) []bool {
	model := make([]bool, count)
	for i := range model {
		model[i] = roll(2) == 1
	}
	return model
}

// move calls one function of both, with the same arguments.
func move(roll func(int) int, g *graph.Graph, p *plain) (name string, got, want int) {
	n := len(p.nodes)
	a, b, c := edge(roll, n), edge(roll, n), edge(roll, n)
	switch roll(8) {
	case 0:
		return "Input", g.Input(), p.add(node{input: true})
	case 1:
		return "Or", g.Or(a, b), p.or(a, b)
	case 2:
		return "Xor", g.Xor(a, b), p.xor(a, b)
	case 3:
		return "Mux", g.Mux(c, a, b), p.mux(c, a, b)
	case 4:
		es := edges(roll, n, 6)
		return "All", g.All(es...), p.all(es)
	case 5:
		es := edges(roll, n, 6)
		return "Any", g.Any(es...), p.any(es)
	}
	return "And", g.And(a, b), p.and(a, b)
}

func TestAgainstPlain(t *testing.T) {
	for seed := range uint64(300) {
		roll := dice(seed)
		g, p := graph.New(), newPlain()
		for range 60 {
			if name, got, want := move(roll, g, p); got != want {
				t.Fatalf("P5.1, P5.2: seed %d: %s: %d; asked for: %d", seed, name, got, want)
			}
			agree(t, g, p)
		}
		for range 10 {
			model := inputs(roll, roll(len(p.inputs())+3))
			es := edges(roll, len(p.nodes), 20)
			got := g.Eval(model, es...)
			if len(got) != len(es) {
				t.Fatalf("P5.3: seed %d: %d values of %d edges", seed, len(got), len(es))
			}
			for i, e := range es {
				if got[i] != p.holds(model, e) {
					t.Fatalf("P5.3: seed %d: edge %d with %v: %v", seed, e, model, got[i])
				}
			}
		}
		agree(t, g, p)
	}
}
