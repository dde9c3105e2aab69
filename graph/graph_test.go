package graph_test

import (
	"math"
	"slices"
	"testing"

	"weirgate/api"
	"weirgate/graph"
)

// made returns a graph of some inputs, and their edges.
func made(count int) (*graph.Graph, []int) {
	g := graph.New()
	es := make([]int, count)
	for i := range es {
		es[i] = g.Input()
	}
	return g, es
}

// models returns all models of so many inputs.
func models(count int) [][]bool {
	out := make([][]bool, 1<<count)
	for m := range out {
		out[m] = make([]bool, count)
		for i := range out[m] {
			out[m][i] = m>>i&1 == 1
		}
	}
	return out
}

func TestNew(t *testing.T) {
	g := graph.New()
	if g == nil || g.Nodes() != 1 || len(g.Inputs()) != 0 {
		t.Fatal("P5.1: a new graph has only node 0")
	}
	if a, b, ok := g.Node(0); a != 0 || b != 0 || ok {
		t.Errorf("P5.3: node 0: %d, %d, %v", a, b, ok)
	}
	if v := g.Eval(nil, 0, 1); !slices.Equal(v, []bool{false, true}) {
		t.Errorf("P5.3: 0 is false, and 1 is true: %v", v)
	}
}

func TestGraphsAreApart(t *testing.T) {
	g, es := made(2)
	other := graph.New()
	g.And(es[0], es[1])
	if other.Nodes() != 1 || other.And(es[0], es[1]) != 0 || len(other.Inputs()) != 0 {
		t.Error("P5.1: a graph has nodes of another one")
	}
	if e := other.Input(); e != 2 || g.Nodes() != 4 || len(g.Inputs()) != 2 {
		t.Error("P5.1: an input of one graph changed another one")
	}
}

func TestInput(t *testing.T) {
	g, es := made(2)
	and := g.And(es[0], es[1])
	last := g.Input()
	if !slices.Equal(es, []int{2, 4}) || and != 6 || last != 8 || g.Nodes() != 5 {
		t.Errorf("P5.1: %v, %d, %d", es, and, last)
	}
	if in := g.Inputs(); !slices.Equal(in, []int{2, 4, 8}) {
		t.Errorf("P5.3: %v", in)
	}
	if a, b, ok := g.Node(4); a != 0 || b != 0 || ok {
		t.Errorf("P5.3: an input: %d, %d, %v", a, b, ok)
	}
}

func TestNot(t *testing.T) {
	for _, e := range []int{0, 2, 4, 100, 2 * api.MaxNodes, -2, -4, 1 << 32, math.MaxInt - 1, math.MinInt} {
		if graph.Not(e) != e+1 || graph.Not(e+1) != e {
			t.Errorf("P5.1: Not(%d) is %d, Not(%d) is %d", e, graph.Not(e), e+1, graph.Not(e+1))
		}
	}
}

func TestAndThatNeedsNoNode(t *testing.T) {
	g, es := made(2)
	x, y := es[0], es[1]
	and := g.And(x, y)
	for _, e := range []int{0, 1, x, x + 1, and, and + 1} {
		for _, c := range [][2]int{{0, 0}, {1, e}, {e, e}, {graph.Not(e), 0}} {
			if a, b := g.And(e, c[0]), g.And(c[0], e); a != c[1] || b != c[1] {
				t.Errorf("P5.1: And of %d and %d: %d, %d; asked for: %d", e, c[0], a, b, c[1])
			}
		}
	}
	if g.And(y, x) != and || g.And(x, y) != and {
		t.Error("P5.1: an and occurs twice")
	}
	if g.Nodes() != 4 {
		t.Errorf("P5.1: %d nodes", g.Nodes())
	}
}

func TestAndThatNeedsNode(t *testing.T) {
	g, es := made(2)
	x, y := es[0], es[1]
	pairs := [][2]int{{x, y}, {x, y + 1}, {x + 1, y}, {x + 1, y + 1}}
	for i, c := range pairs {
		if e := g.And(c[1], c[0]); e != 2*(3+i) {
			t.Errorf("P5.1: And of %v: %d", c, e)
		}
	}
	for i, c := range pairs {
		if e := g.And(c[0], c[1]); e != 2*(3+i) {
			t.Errorf("P5.1: And of %v, once more: %d", c, e)
		}
		if a, b, ok := g.Node(3 + i); a != c[0] || b != c[1] || !ok {
			t.Errorf("P5.3: node %d: %d, %d, %v; asked for: %v", 3+i, a, b, ok, c)
		}
	}
	if e := g.And(6, 7+2); e != 14 || g.Nodes() != 8 { // an and of ands
		t.Errorf("P5.1: %d, %d nodes", e, g.Nodes())
	}
}

// TestForeignEdges: each function answers, and makes, what it does with 0 instead.
func TestForeignEdges(t *testing.T) {
	calls := map[string]func(g *graph.Graph, x, e int) int{
		"And(x, e)":       func(g *graph.Graph, x, e int) int { return g.And(x, e) },
		"And(e, x)":       func(g *graph.Graph, x, e int) int { return g.And(e, x) },
		"And(e, e)":       func(g *graph.Graph, x, e int) int { return g.And(e, e) },
		"And(1, e)":       func(g *graph.Graph, x, e int) int { return g.And(1, e) },
		"Or(x, e)":        func(g *graph.Graph, x, e int) int { return g.Or(x, e) },
		"Or(e, x)":        func(g *graph.Graph, x, e int) int { return g.Or(e, x) },
		"Or(e, e)":        func(g *graph.Graph, x, e int) int { return g.Or(e, e) },
		"Xor(x, e)":       func(g *graph.Graph, x, e int) int { return g.Xor(x, e) },
		"Xor(e, x)":       func(g *graph.Graph, x, e int) int { return g.Xor(e, x) },
		"Xor(e, e)":       func(g *graph.Graph, x, e int) int { return g.Xor(e, e) },
		"Mux(e, x, Not)":  func(g *graph.Graph, x, e int) int { return g.Mux(e, x, graph.Not(x)) },
		"Mux(x, e, 4)":    func(g *graph.Graph, x, e int) int { return g.Mux(x, e, 4) },
		"Mux(x, 4, e)":    func(g *graph.Graph, x, e int) int { return g.Mux(x, 4, e) },
		"Mux(x, e, e)":    func(g *graph.Graph, x, e int) int { return g.Mux(x, e, e) },
		"All(x, e)":       func(g *graph.Graph, x, e int) int { return g.All(x, e) },
		"All(e)":          func(g *graph.Graph, x, e int) int { return g.All(e) },
		"All(e, x)":       func(g *graph.Graph, x, e int) int { return g.All(e, x) },
		"Any(x, e)":       func(g *graph.Graph, x, e int) int { return g.Any(x, e) },
		"Any(e, x)":       func(g *graph.Graph, x, e int) int { return g.Any(e, x) },
		"Any(e, e, x, 4)": func(g *graph.Graph, x, e int) int { return g.Any(e, e, x, 4) },
	}
	for name, call := range calls {
		for _, x := range []int{2, 3, 6, 7} {
			for i := range foreign(4) {
				g, es := made(2)
				twin, _ := made(2)
				g.And(es[0], es[1])
				twin.And(es[0], es[1])
				e := foreign(g.Nodes())[i]
				if got, want := call(g, x, e), call(twin, x, 0); got != want || g.Nodes() != twin.Nodes() {
					t.Errorf("P5.1: %s with %d and %d: %d, %d nodes; asked for: %d, %d", name, x, e, got, g.Nodes(), want, twin.Nodes())
				}
			}
		}
	}
	g, es := made(1)
	for _, e := range foreign(g.Nodes()) {
		if g.Or(es[0], e) != es[0] || g.Or(e, es[0]) != es[0] {
			t.Errorf("P5.1: Or(x, %d) is not x", e)
		}
	}
}

// TestForeignEdgeOfNextNode: only All and Any may use an edge that they make themselves.
func TestForeignEdgeOfNextNode(t *testing.T) {
	g, es := made(3)
	next := 2 * g.Nodes()
	if e := g.Mux(es[0], es[1], next); e != next || g.Nodes() != 5 {
		t.Errorf("P5.1: Mux: %d, %d nodes", e, g.Nodes())
	}
	next = 2 * g.Nodes()
	if e := g.Xor(es[2], next); e != es[2] || g.Nodes() != 5 {
		t.Errorf("P5.1: Xor: %d, %d nodes", e, g.Nodes())
	}
	g, es = made(3)
	next = 2 * g.Nodes()
	if e := g.All(es[0], es[1], next); e != next || g.Nodes() != 5 {
		t.Errorf("P5.2: All: %d, %d nodes", e, g.Nodes())
	}
	if e := g.All(2*g.Nodes(), es[0], es[2]); e != 0 || g.Nodes() != 5 {
		t.Errorf("P5.2: All that begins with its own edge: %d, %d nodes", e, g.Nodes())
	}
	if e := g.All(es[0], es[2], 2*g.Nodes()+1, es[1]); e != 0 || g.Nodes() != 6 {
		t.Errorf("P5.2: All with the negation of its own edge: %d, %d nodes", e, g.Nodes())
	}
	next = 2 * g.Nodes()
	if e := g.Any(es[0], es[1], next); e != 1 || g.Nodes() != 7 { // x or y is the negation of the new node
		t.Errorf("P5.2: Any: %d, %d nodes", e, g.Nodes())
	}
	next = 2 * g.Nodes()
	if e := g.Any(es[0], es[2], next+1); e != next+1 || g.Nodes() != 8 {
		t.Errorf("P5.2: Any with its own edge: %d, %d nodes", e, g.Nodes())
	}
	next = 2 * g.Nodes()
	if e := g.Any(next, next+1, es[1], es[2]); e != next+1 || g.Nodes() != 9 {
		t.Errorf("P5.2: Any that begins with its own edge: %d, %d nodes", e, g.Nodes())
	}
}

func TestValues(t *testing.T) {
	g, in := made(3)
	x, y, z := in[0], in[1], in[2]
	es := []int{g.And(x, y), g.Or(x, y), g.Xor(x, y), g.Mux(z, x, y), g.All(), g.All(x), g.All(x, y, z), g.Any(), g.Any(y), g.Any(x, y, z), g.Mux(z, graph.Not(x), x), g.Mux(z, z, y), g.Mux(z, x, z), g.Xor(x, x), g.Xor(x, graph.Not(x)), g.Mux(z, x, x)}
	for _, m := range models(3) {
		p, q, r := m[0], m[1], m[2]
		mux := q
		if r {
			mux = p
		}
		want := []bool{p && q, p || q, p != q, mux, true, p, p && q && r, false, q, p || q || r, r != p, r || q, r && p, false, true, p}
		if v := g.Eval(m, es...); !slices.Equal(v, want) {
			t.Errorf("P5.2: %v: %v; asked for: %v", m, v, want)
		}
	}
}

// TestConstruction: the nodes that are made, one by one.
func TestConstruction(t *testing.T) {
	// The inputs are 2, 4, 6; the nodes of the ands begin with 4.
	cases := []struct {
		name string
		make func(g *graph.Graph) int
		want int
		ands [][2]int
	}{
		{"Or(4, 2)", func(g *graph.Graph) int { return g.Or(4, 2) }, 9, [][2]int{{3, 5}}},
		{"Or(3, 4)", func(g *graph.Graph) int { return g.Or(3, 4) }, 9, [][2]int{{2, 5}}},
		{"Or(2, 2)", func(g *graph.Graph) int { return g.Or(2, 2) }, 2, nil},
		{"Or(2, 3)", func(g *graph.Graph) int { return g.Or(2, 3) }, 1, nil},
		{"Or(0, 2)", func(g *graph.Graph) int { return g.Or(0, 2) }, 2, nil},
		{"Or(2, 1)", func(g *graph.Graph) int { return g.Or(2, 1) }, 1, nil},
		{"Xor(2, 4)", func(g *graph.Graph) int { return g.Xor(2, 4) }, 13, [][2]int{{2, 5}, {3, 4}, {9, 11}}},
		{"Xor(4, 2)", func(g *graph.Graph) int { return g.Xor(4, 2) }, 13, [][2]int{{3, 4}, {2, 5}, {9, 11}}},
		{"Xor(2, 5)", func(g *graph.Graph) int { return g.Xor(2, 5) }, 13, [][2]int{{2, 4}, {3, 5}, {9, 11}}},
		{"Xor(1, 2)", func(g *graph.Graph) int { return g.Xor(1, 2) }, 3, nil},
		{"Xor(3, 3)", func(g *graph.Graph) int { return g.Xor(3, 3) }, 0, nil},
		{"Xor(3, 2)", func(g *graph.Graph) int { return g.Xor(3, 2) }, 1, nil},
		{"Mux(6, 2, 4)", func(g *graph.Graph) int { return g.Mux(6, 2, 4) }, 13, [][2]int{{2, 6}, {4, 7}, {9, 11}}},
		{"Mux(6, 2, 2)", func(g *graph.Graph) int { return g.Mux(6, 2, 2) }, 13, [][2]int{{2, 6}, {2, 7}, {9, 11}}},
		{"Mux(6, 2, 3)", func(g *graph.Graph) int { return g.Mux(6, 2, 3) }, 13, [][2]int{{2, 6}, {3, 7}, {9, 11}}},
		{"Mux(6, 1, 1)", func(g *graph.Graph) int { return g.Mux(6, 1, 1) }, 1, nil},
		{"Mux(6, 1, 4)", func(g *graph.Graph) int { return g.Mux(6, 1, 4) }, 11, [][2]int{{4, 7}, {7, 9}}},
		{"Mux(6, 1, 0)", func(g *graph.Graph) int { return g.Mux(6, 1, 0) }, 6, nil},
		{"Mux(7, 1, 0)", func(g *graph.Graph) int { return g.Mux(7, 1, 0) }, 7, nil},
		{"Mux(6, 0, 1)", func(g *graph.Graph) int { return g.Mux(6, 0, 1) }, 7, nil},
		{"Mux(6, 6, 4)", func(g *graph.Graph) int { return g.Mux(6, 6, 4) }, 11, [][2]int{{4, 7}, {7, 9}}},
		{"Mux(1, 2, 4)", func(g *graph.Graph) int { return g.Mux(1, 2, 4) }, 2, nil},
		{"Mux(0, 2, 4)", func(g *graph.Graph) int { return g.Mux(0, 2, 4) }, 4, nil},
		{"All()", func(g *graph.Graph) int { return g.All() }, 1, nil},
		{"All(5)", func(g *graph.Graph) int { return g.All(5) }, 5, nil},
		{"All(6, 4, 2)", func(g *graph.Graph) int { return g.All(6, 4, 2) }, 10, [][2]int{{4, 6}, {2, 8}}},
		{"All(2, 4, 2, 4)", func(g *graph.Graph) int { return g.All(2, 4, 2, 4) }, 12, [][2]int{{2, 4}, {2, 8}, {4, 10}}},
		{"All(2, 4, 0, 6)", func(g *graph.Graph) int { return g.All(2, 4, 0, 6) }, 0, [][2]int{{2, 4}}},
		{"All(2, 4, 9, 6)", func(g *graph.Graph) int { return g.All(2, 4, 9, 6) }, 0, [][2]int{{2, 4}}},
		{"Any()", func(g *graph.Graph) int { return g.Any() }, 0, nil},
		{"Any(5)", func(g *graph.Graph) int { return g.Any(5) }, 5, nil},
		{"Any(6, 4, 2)", func(g *graph.Graph) int { return g.Any(6, 4, 2) }, 11, [][2]int{{5, 7}, {3, 8}}},
		{"Any(2, 4, 1, 6)", func(g *graph.Graph) int { return g.Any(2, 4, 1, 6) }, 1, [][2]int{{3, 5}}},
	}
	for _, c := range cases {
		g, _ := made(3)
		if e := c.make(g); e != c.want || g.Nodes() != 4+len(c.ands) {
			t.Errorf("P5.2: %s: %d, %d nodes; asked for: %d, %d", c.name, e, g.Nodes(), c.want, 4+len(c.ands))
		}
		for i, and := range c.ands {
			if a, b, ok := g.Node(4 + i); a != and[0] || b != and[1] || !ok {
				t.Errorf("P5.2: %s: node %d: %d, %d, %v; asked for: %v", c.name, 4+i, a, b, ok, and)
			}
		}
	}
}

func TestNode(t *testing.T) {
	g, es := made(2)
	g.And(es[1], es[0])
	for _, n := range []int{0, 1, 2, 4, 5, 8, -1, -2, -3, api.MaxNodes, 1<<32 + 3, math.MaxInt, math.MinInt, math.MinInt + 3} {
		if a, b, ok := g.Node(n); a != 0 || b != 0 || ok {
			t.Errorf("P5.3: node %d: %d, %d, %v", n, a, b, ok)
		}
	}
	if a, b, ok := g.Node(3); a != es[0] || b != es[1] || !ok {
		t.Errorf("P5.3: node 3: %d, %d, %v", a, b, ok)
	}
}

func TestEval(t *testing.T) {
	g, es := made(2)
	x, y := es[0], es[1]
	and := g.And(x, graph.Not(y))
	z := g.Input() // after an and
	cases := []struct {
		model []bool
		want  []bool // of x, y, z, and the and
	}{
		{nil, []bool{false, false, false, false}},
		{[]bool{}, []bool{false, false, false, false}},
		{[]bool{true}, []bool{true, false, false, true}},
		{[]bool{true, true}, []bool{true, true, false, false}},
		{[]bool{false, false, true}, []bool{false, false, true, false}},
		{[]bool{true, false, true, true, true}, []bool{true, false, true, true}},
		{[]bool{false, true, false, true, true}, []bool{false, true, false, false}},
	}
	for _, c := range cases {
		if v := g.Eval(c.model, x, y, z, and); !slices.Equal(v, c.want) {
			t.Errorf("P5.3: %v: %v; asked for: %v", c.model, v, c.want)
		}
		for i, v := range g.Eval(c.model, x+1, y+1, z+1, and+1) {
			if v == c.want[i] {
				t.Errorf("P5.3: %v: negation %d: %v", c.model, i, v)
			}
		}
		if v := g.Eval(c.model, foreign(g.Nodes())...); slices.Contains(v, true) || len(v) != len(foreign(0)) {
			t.Errorf("P5.3: edges that do not belong to the graph: %v", v)
		}
		if v := g.Eval(c.model, 1, 1, 0, 1, x, 99, x, x); !slices.Equal(v, []bool{true, true, false, true, c.want[0], false, c.want[0], c.want[0]}) {
			t.Errorf("P5.3: edges that repeat: %v", v)
		}
		if v := g.Eval(c.model); len(v) != 0 {
			t.Errorf("P5.3: no edges: %v", v)
		}
	}
	if g.Nodes() != 5 {
		t.Errorf("P5.3: Eval made nodes: %d", g.Nodes())
	}
}

func TestMemory(t *testing.T) {
	g, es := made(3)
	in := g.Inputs()
	clear(in)
	_ = append(in, 7)
	if last := g.Input(); !slices.Equal(g.Inputs(), []int{2, 4, 6, last}) || &g.Inputs()[0] == &g.Inputs()[0] {
		t.Error("P5.3: what is written into the inputs changes the graph")
	}
	args := append(make([]int, 0, 8), es...)
	all, some := g.All(args...), g.Any(args...)
	model := append(make([]bool, 0, 8), true, false, true)
	v := g.Eval(model, args...)
	if !slices.Equal(args[:8], []int{2, 4, 6, 0, 0, 0, 0, 0}) || !slices.Equal(model[:8], []bool{true, false, true, false, false, false, false, false}) {
		t.Error("P5.3: an argument was changed")
	}
	if !slices.Equal(v, []bool{true, false, true}) {
		t.Errorf("P5.3: %v", v)
	}
	clear(args)
	clear(model)
	if !slices.Equal(v, []bool{true, false, true}) || g.All(es...) != all || g.Any(es...) != some {
		t.Error("P5.3: an argument was retained")
	}
	w := g.Eval([]bool{true, true, true}, all, some)
	clear(v)
	clear(w)
	if w = g.Eval([]bool{true, true, true}, all, some); !slices.Equal(w, []bool{true, true}) {
		t.Error("P5.3: what is written into the values changes the graph")
	}
}

// full returns a graph with room for so many nodes more: its inputs are x, y and z, and then comes z and x, that and y, that and x, and so on.
func full(t *testing.T, room int) *graph.Graph {
	t.Helper()
	g, es := made(3)
	last := es[2]
	for i := range api.MaxNodes - room - g.Nodes() {
		last = g.And(last, es[i%2])
	}
	if g.Nodes() != api.MaxNodes-room || last != 2*g.Nodes()-2 {
		t.Fatalf("P5.1: %d nodes, the last edge is %d", g.Nodes(), last)
	}
	return g
}

func TestFull(t *testing.T) {
	g := full(t, 0)
	x, y, z, top := 2, 4, 6, 2*(api.MaxNodes-1)
	if e := g.And(z, x); e != 8 {
		t.Errorf("P5.1: an and that there is: %d", e)
	}
	if a, b := g.Input(), g.Input(); a != 0 || b != 0 || len(g.Inputs()) != 3 {
		t.Errorf("P5.1: inputs of a full graph: %d, %d, %v", a, b, g.Inputs())
	}
	cases := []struct {
		name      string
		got, want int
	}{
		{"And that would need a node", g.And(y, z), 0},
		{"And that would need a node, once more", g.And(z, y), 0},
		{"And with itself", g.And(top, top), top},
		{"And with the negation", g.And(top, top+1), 0},
		{"And with 1", g.And(1, top+1), top + 1},
		{"And with what does not belong", g.And(top, top+2), 0},
		{"Or", g.Or(y, z), 1},
		{"Or with 0", g.Or(0, top), top},
		{"Xor", g.Xor(y, z), 0},
		{"Xor with 1", g.Xor(top, 1), top + 1},
		{"Mux", g.Mux(x, y, z), 0},
		{"Mux with what there is", g.Mux(x, z, 0), 8},
		{"All", g.All(x, z, y), 10},
		{"All that would need a node", g.All(x, y, z), 0},
		{"Any", g.Any(x, y, z), 1},
		{"Any of one", g.Any(0, top, 0), top},
	}
	for _, c := range cases {
		if c.got != c.want {
			t.Errorf("P5.1: a full graph: %s: %d; asked for: %d", c.name, c.got, c.want)
		}
	}
	if g.Nodes() != api.MaxNodes {
		t.Errorf("P5.1: %d nodes", g.Nodes())
	}
	for _, m := range models(3) {
		and := m[0] && m[1] && m[2]
		if v := g.Eval(m, top, top+1, x, y, z, top+2); !slices.Equal(v, []bool{and, !and, m[0], m[1], m[2], false}) {
			t.Errorf("P5.3: a full graph with %v: %v", m, v)
		}
	}
}

// TestAlmostFull: with room for some of the nodes that a function needs, the ands after them are false.
func TestAlmostFull(t *testing.T) {
	cases := []struct {
		name string
		make func(g *graph.Graph) int
		want [4]int // with room for 0, 1, 2 and 3 nodes, where 2 is the edge of the first one that is made
	}{
		{"And", func(g *graph.Graph) int { return g.And(4, 6) }, [4]int{0, 2, 2, 2}},
		{"Or", func(g *graph.Graph) int { return g.Or(4, 6) }, [4]int{1, 3, 3, 3}},
		{"Xor", func(g *graph.Graph) int { return g.Xor(4, 6) }, [4]int{0, 2, 1, 7}},
		{"Mux", func(g *graph.Graph) int { return g.Mux(3, 4, 6) }, [4]int{8, 1, 5, 5}},
		{"All", func(g *graph.Graph) int { return g.All(4, 6, 2) }, [4]int{0, 0, 4, 4}},
		{"Any", func(g *graph.Graph) int { return g.Any(4, 6, 2) }, [4]int{1, 1, 5, 5}},
		{"Input", func(g *graph.Graph) int { return g.Input() }, [4]int{0, 2, 2, 2}},
	}
	for _, c := range cases {
		for room, want := range c.want {
			g := full(t, room)
			base := 2*g.Nodes() - 2
			got := c.make(g)
			if got >= base {
				got -= base
			}
			if got != want {
				t.Errorf("P5.1: %s with room for %d: %d; asked for: %d", c.name, room, got, want)
			}
		}
	}
}

func TestFullOfInputs(t *testing.T) {
	g, es := made(api.MaxNodes - 1)
	if g.Nodes() != api.MaxNodes || es[len(es)-1] != 2*(api.MaxNodes-1) || g.Input() != 0 || !slices.Equal(g.Inputs(), es) {
		t.Errorf("P5.1: %d nodes, %d inputs", g.Nodes(), len(g.Inputs()))
	}
	model := make([]bool, len(es)+5)
	model[len(es)-1], model[len(es)] = true, true
	if v := g.Eval(model, es...); slices.Contains(v[:len(es)-1], true) || !v[len(es)-1] {
		t.Error("P5.3: the values of a full graph's inputs")
	}
}

// TestLong: an and of many inputs, which is as deep as it is long.
func TestLong(t *testing.T) {
	const count = 90000
	g, es := made(count)
	all, some := g.All(es...), g.Any(es[:15000]...)
	model := make([]bool, count)
	for i := range model {
		model[i] = true
	}
	if v := g.Eval(model, all, some); !v[0] || !v[1] {
		t.Errorf("P5.2: all inputs are true: %v", v)
	}
	model[0] = false
	if v := g.Eval(model, all, some); v[0] || !v[1] {
		t.Errorf("P5.2: one input is false: %v", v)
	}
	clear(model[:15000])
	if v := g.Eval(model, all, some); v[0] || v[1] {
		t.Errorf("P5.2: the first inputs are false: %v", v)
	}
}

// TestNoConstructor: nothing is promised of what New did not return, but no call panics.
func TestNoConstructor(t *testing.T) {
	for _, g := range []*graph.Graph{nil, {}} {
		for range 2 {
			g.Input()
			g.And(1, 1)
			g.And(2, 4)
			g.Or(2, 4)
			g.Xor(2, 4)
			g.Mux(2, 4, 6)
			g.All(1, 2)
			g.Any(0, 2)
			g.Node(0)
			g.Inputs()
			if v := g.Eval([]bool{true}, 0, 1, 2); len(v) != 3 || g.Nodes() != 0 {
				t.Errorf("Rules 1: %v, %d nodes", v, g.Nodes())
			}
		}
	}
}

func TestExamples(t *testing.T) {
	g, es := made(1)
	x := es[0]
	if g.And(x, 1) != x || g.And(x, graph.Not(x)) != 0 || g.Nodes() != 2 {
		t.Error("the examples of layer 5")
	}
}
