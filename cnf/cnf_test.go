package cnf_test

import (
	"slices"
	"testing"

	"weirgate/api"
	"weirgate/bits"
	"weirgate/cnf"
	"weirgate/graph"
	"weirgate/sat"
)

// made returns a graph of some inputs.
func made(count int) *graph.Graph {
	g := graph.New()
	for range count {
		g.Input()
	}
	return g
}

func TestNew(t *testing.T) {
	if cnf.New(nil) != nil {
		t.Error("P7.1: a maker of no graph")
	}
	for _, inputs := range []int{0, 3} {
		g := made(inputs)
		m := cnf.New(g)
		if m == nil || m.Vars() != 1 || len(m.Inputs([]bool{true, true})) != inputs {
			t.Fatalf("P7.1: a new maker of %d inputs", inputs)
		}
		if cs := m.Take(); !equal(cs, [][]int{{-1}}) {
			t.Errorf("P7.1: the clauses of a new maker: %v", cs)
		}
		if cs := m.Take(); len(cs) != 0 {
			t.Errorf("P7.1: taken twice: %v", cs)
		}
		if m.Lit(0) != 1 || m.Lit(1) != -1 || m.Vars() != 1 || len(m.Take()) != 0 {
			t.Error("P7.1: node 0 has variable 1 and its clause from New on")
		}
		if g.Nodes() != inputs+1 {
			t.Errorf("P7.1: the graph has %d nodes", g.Nodes())
		}
	}
}

// TestOrder: the variables and the clauses, written out. The inputs are 2, 4, 6, 8; the ands are 10 (2 and 5), 12 (6 and 10), 14 (9 and 13), 16 (4 and 11), 18 (14 and 16).
func TestOrder(t *testing.T) {
	cases := []struct {
		name     string
		edges    []int
		literals []int
		clauses  [][]int
	}{
		{"nothing", nil, nil, nil},
		{"an input", []int{4}, []int{2}, nil},
		{"the negation of an input", []int{5, 4, 5}, []int{-2, 2, -2}, nil},
		{"inputs in another order", []int{8, 3, 6}, []int{2, -3, 4}, nil},
		{"an and", []int{10}, []int{4}, [][]int{{-4, 2}, {-4, -3}, {4, -2, 3}}},
		{"the negation of an and", []int{11, 10}, []int{-4, 4}, [][]int{{-4, 2}, {-4, -3}, {4, -2, 3}}},
		{"an and whose second edge is there", []int{4, 10}, []int{2, 4}, [][]int{{-4, 3}, {-4, -2}, {4, -3, 2}}},
		{"an and after both of its edges", []int{5, 3, 10}, []int{-2, -3, 4}, [][]int{{-4, 3}, {-4, -2}, {4, -3, 2}}},
		{"an input before an and", []int{12}, []int{6}, [][]int{{-5, 3}, {-5, -4}, {5, -3, 4}, {-6, 2}, {-6, 5}, {6, -2, -5}}},
		{"an and of a negated and", []int{15}, []int{-8}, [][]int{{-6, 4}, {-6, -5}, {6, -4, 5}, {-7, 3}, {-7, 6}, {7, -3, -6}, {-8, -2}, {-8, -7}, {8, 2, 7}}},
		{"an and after the one below it", []int{10, 12}, []int{4, 6}, [][]int{{-4, 2}, {-4, -3}, {4, -2, 3}, {-6, 5}, {-6, 4}, {6, -5, -4}}},
		{"an and that is needed twice", []int{18}, []int{10}, [][]int{{-6, 4}, {-6, -5}, {6, -4, 5}, {-7, 3}, {-7, 6}, {7, -3, -6}, {-8, -2}, {-8, -7}, {8, 2, 7}, {-9, 5}, {-9, -6}, {9, -5, 6}, {-10, 8}, {-10, 9}, {10, -8, -9}}},
	}
	for _, c := range cases {
		g := made(4)
		for i, p := range [][2]int{{2, 5}, {6, 10}, {9, 13}, {4, 11}, {14, 16}} {
			if e := g.And(p[0], p[1]); e != 10+2*i {
				t.Fatalf("the graph has other edges: %d", e)
			}
		}
		m := cnf.New(g)
		m.Take()
		for i, e := range c.edges {
			if l := m.Lit(e); l != c.literals[i] {
				t.Errorf("P7.1: %s: Lit(%d): %d; asked for: %d", c.name, e, l, c.literals[i])
			}
		}
		if cs := m.Take(); !equal(cs, c.clauses) {
			t.Errorf("P7.1: %s: %v; asked for: %v", c.name, cs, c.clauses)
		}
	}
}

func TestTake(t *testing.T) {
	g := made(3)
	a := g.And(2, 4)
	b := g.And(a, 6)
	m := cnf.New(g)
	m.Lit(a)
	if cs := m.Take(); !equal(cs, [][]int{{-1}, {-4, 2}, {-4, 3}, {4, -2, -3}}) {
		t.Errorf("P7.1: the first clauses: %v", cs)
	}
	m.Lit(a)
	m.Lit(2)
	if cs := m.Take(); len(cs) != 0 {
		t.Errorf("P7.1: clauses of nothing new: %v", cs)
	}
	m.Lit(b)
	c := g.And(4, 6)
	m.Lit(c)
	if cs := m.Take(); !equal(cs, [][]int{{-6, 5}, {-6, 4}, {6, -5, -4}, {-7, 3}, {-7, 5}, {7, -3, -5}}) {
		t.Errorf("P7.1: the clauses of two requests: %v", cs)
	}
	if cs := m.Take(); len(cs) != 0 || m.Vars() != 7 {
		t.Errorf("P7.1: taken twice: %v", cs)
	}
}

// TestForeignEdges: each counts as edge 0, also the odd ones, until it belongs to the graph.
func TestForeignEdges(t *testing.T) {
	g := made(2)
	g.And(2, 4)
	m := cnf.New(g)
	m.Take()
	for _, e := range foreign(g.Nodes()) {
		if l := m.Lit(e); l != 1 {
			t.Errorf("P7.1: Lit(%d): %d", e, l)
		}
	}
	if cs := m.Take(); m.Vars() != 1 || len(cs) != 0 {
		t.Errorf("P7.1: edges that do not belong to the graph: %d variables, clauses %v", m.Vars(), cs)
	}
	next := 2 * g.Nodes()
	for i := range 3 {
		e := next + 2*i
		if m.Lit(e) != 1 || m.Lit(e+1) != 1 {
			t.Errorf("P7.1: edge %d does not belong to the graph yet", e)
		}
		if g.Input() != e || m.Lit(e+1) != -2-i || m.Lit(e) != 2+i {
			t.Errorf("P7.3: edge %d belongs to the graph: %d", e, m.Lit(e))
		}
	}
	if l := m.Lit(2*g.Nodes() - 1); l != -4 {
		t.Errorf("P7.1: the last edge: %d", l)
	}
}

func TestInputs(t *testing.T) {
	g := made(4)
	a := g.And(5, 8)
	m := cnf.New(g)
	m.Lit(6)
	m.Lit(a) // the variables: 6 has 2, 4 has 3, 8 has 4, the and has 5, and 2 has none
	cases := []struct {
		model []bool
		want  []bool
	}{
		{nil, []bool{false, false, false, false}},
		{[]bool{true}, []bool{false, false, false, false}},
		{[]bool{true, true}, []bool{false, false, true, false}},
		{[]bool{false, false, true}, []bool{false, true, false, false}},
		{[]bool{false, true, false, true}, []bool{false, false, true, true}},
		{[]bool{true, true, true, true, true}, []bool{false, true, true, true}},
		{[]bool{true, true, true, true, true, true, true, true}, []bool{false, true, true, true}},
		{[]bool{false, false, false, false, true}, []bool{false, false, false, false}},
	}
	for _, c := range cases {
		if in := m.Inputs(c.model); !slices.Equal(in, c.want) {
			t.Errorf("P7.2: %v: %v; asked for: %v", c.model, in, c.want)
		}
	}
	every := []bool{true, true, true, true, true, true, true}
	last := g.Input()
	if in := m.Inputs(every); !slices.Equal(in, []bool{false, true, true, true, false}) {
		t.Errorf("P7.2: a new input that was not needed: %v", in)
	}
	m.Lit(last)
	if in := m.Inputs(every[:5]); !slices.Equal(in, []bool{false, true, true, true, false}) {
		t.Errorf("P7.2: a new input, beyond the model: %v", in)
	}
	m.Lit(3)
	if in := m.Inputs(every); !slices.Equal(in, []bool{true, true, true, true, true}) {
		t.Errorf("P7.2: all were needed: %v", in)
	}
	if m.Vars() != 7 || len(cnf.New(g).Inputs(every)) != 5 {
		t.Errorf("P7.2: Inputs made variables: %d", m.Vars())
	}
}

// modelsOf returns all models of the clauses.
func modelsOf(cs [][]int, vars int) [][]bool {
	var out [][]bool
	for n := range 1 << vars {
		model := make([]bool, vars)
		for i := range model {
			model[i] = n>>i&1 == 1
		}
		if all(cs, model) {
			out = append(out, model)
		}
	}
	return out
}

// agree fails if a model gives a needed edge another value than Eval does, or if there is not exactly one model for each choice of needed inputs.
func agree(t *testing.T, g *graph.Graph, m *cnf.Maker, cs [][]int, es []int) {
	t.Helper()
	needed := 0
	for _, e := range g.Inputs() {
		for _, d := range es {
			if e == d {
				needed++
			}
		}
	}
	count := map[int]int{}
	models := modelsOf(cs, m.Vars())
	for _, model := range models {
		in := m.Inputs(model)
		number := 0
		for i, v := range in {
			if v {
				number += 1 << i
			}
		}
		count[number]++
		for i, v := range g.Eval(in, es...) {
			if l := m.Lit(es[i]); isTrue(l, model) != v {
				t.Fatalf("P7.3: edge %d, literal %d, is %v with the inputs %v; the model is %v", es[i], l, v, in, model)
			}
		}
	}
	if len(models) != 1<<needed || len(count) != 1<<needed {
		t.Fatalf("P7.3: %d models, %d choices of %d needed inputs", len(models), len(count), needed)
	}
}

// below returns the edges of all nodes that e needs, and of node 0.
func below(g *graph.Graph, es ...int) []int {
	way := append([]int{0}, es...)
	var out []int
	for len(way) > 0 {
		n := way[len(way)-1] / 2
		way = way[:len(way)-1]
		if slices.Contains(out, 2*n) {
			continue
		}
		out = append(out, 2*n)
		if a, b, ok := g.Node(n); ok {
			way = append(way, a, b)
		}
	}
	return out
}

func TestModels(t *testing.T) {
	for seed := range uint64(150) {
		roll := dice(seed)
		g := made(1 + roll(4))
		m := cnf.New(g)
		var cs [][]int
		var requests []int
		for m.Vars() < 12 && g.Nodes() < 25 {
			grow(roll, g)
			e := roll(2 * g.Nodes())
			es := below(g, append(requests, e)...)
			if len(es) > 13 {
				break
			}
			requests = append(requests, e)
			m.Lit(e)
			cs = append(cs, m.Take()...)
			if m.Vars() != len(es) {
				t.Fatalf("P7.1: seed %d: %d variables; needed: %v", seed, m.Vars(), es)
			}
			agree(t, g, m, cs, es)
			if len(m.Take()) != 0 {
				t.Fatalf("P7.1: seed %d: clauses of what was needed already", seed)
			}
		}
	}
}

// TestVectors: the sums and products of numbers that the solver finds are those that Eval gives.
func TestVectors(t *testing.T) {
	for product := -8; product < 8; product++ {
		g := graph.New()
		x, y := bits.Inputs(g, 4), bits.Inputs(g, 4)
		e := g.And(bits.Same(g, bits.Mul(g, x, y), bits.Const(product, 4)), bits.Less(g, x, y))
		m := cnf.New(g)
		l := m.Lit(e)
		s, _ := sat.New(m.Vars())
		for _, c := range m.Take() {
			if err := s.Add(c); err != api.OK {
				t.Fatalf("P7.1: clause %v: %v", c, err)
			}
		}
		if s.Solve(-1, l) != api.Sat {
			t.Fatalf("P7.3: no numbers with the product %d", product)
		}
		in := m.Inputs(s.Model())
		a, b := bits.Value(in[:4]), bits.Value(in[4:])
		if bits.Trim(a*b, 4) != product || a >= b || !g.Eval(in, e)[0] {
			t.Errorf("P7.2: %d and %d, with the product %d", a, b, product)
		}
		if s.Solve(-1, -l) != api.Sat || g.Eval(m.Inputs(s.Model()), e)[0] {
			t.Errorf("P7.3: the negation, for the product %d", product)
		}
	}
}

// filled returns the model that these values of the inputs have, variable by variable.
func filled(g *graph.Graph, m *cnf.Maker, in []bool) []bool {
	es := make([]int, g.Nodes())
	for n := range es {
		es[n] = 2 * n
	}
	model := make([]bool, m.Vars())
	for n, v := range g.Eval(in, es...) {
		model[m.Lit(es[n])-1] = v
	}
	return model
}

// TestDeep: a full graph that is as deep as it has nodes, with more variables than a solver may have.
func TestDeep(t *testing.T) {
	g := made(3)
	last := 6
	for i := range api.MaxNodes - g.Nodes() {
		last = g.And(last, 2+2*(i%2))
	}
	if g.Nodes() != api.MaxNodes || last != 2*(api.MaxNodes-1) {
		t.Fatalf("%d nodes, the last edge is %d", g.Nodes(), last)
	}
	m := cnf.New(g)
	if l := m.Lit(last + 1); l != -api.MaxNodes || m.Vars() != api.MaxNodes || m.Lit(last+2) != 1 {
		t.Errorf("P7.1: %d, %d variables", l, m.Vars())
	}
	cs := m.Take()
	if len(cs) != 1+3*(api.MaxNodes-4) {
		t.Fatalf("P7.1: %d clauses", len(cs))
	}
	for _, in := range [][]bool{{true, true, true}, {true, false, true}, {false, true, true}, nil} {
		model := filled(g, m, in)
		if !all(cs, model) {
			t.Errorf("P7.3: %v has no model", in)
		}
		if got := m.Inputs(model); len(in) > 0 && !slices.Equal(got, in) {
			t.Errorf("P7.2: %v; asked for: %v", got, in)
		}
	}
}

// TestWide: a graph of inputs only, and an and of all of them.
func TestWide(t *testing.T) {
	g := made(api.MaxNodes / 2)
	top := g.All(g.Inputs()...)
	m := cnf.New(g)
	if l := m.Lit(top); l != g.Nodes() || m.Vars() != g.Nodes() {
		t.Errorf("P7.1: %d, %d variables of %d nodes", l, m.Vars(), g.Nodes())
	}
	model := make([]bool, m.Vars())
	for i := range model {
		model[i] = i > 0
	}
	if !all(m.Take(), model) || slices.Contains(m.Inputs(model), false) {
		t.Error("P7.3: all inputs are true")
	}
}

// TestMemory: what is written into results changes nothing later, and the model stays as it is.
func TestMemory(t *testing.T) {
	g := made(3)
	a := g.And(2, 4)
	b := g.And(a, 6)
	m := cnf.New(g)
	m.Lit(a)
	first := m.Take()
	want := [][]int{{-1}, {-4, 2}, {-4, 3}, {4, -2, -3}}
	for i := range first {
		c := first[i][:cap(first[i])]
		for k := range c {
			c[k] = 99
		}
		first[i] = first[i][:1]
		for k := i + 1; k < len(first); k++ {
			if !slices.Equal(first[k], want[k]) {
				t.Fatalf("P7.3: clauses %d and %d share memory", i, k)
			}
		}
	}
	clear(first[:cap(first)])
	if m.Lit(a) != 4 || m.Lit(b) != 6 || !equal(m.Take(), [][]int{{-6, 5}, {-6, 4}, {6, -5, -4}}) {
		t.Error("P7.3: what was taken is still used")
	}
	model := append(make([]bool, 0, 20), false, true, true, true, false, false)
	in := m.Inputs(model)
	if !slices.Equal(model[:8], []bool{false, true, true, true, false, false, false, false}) {
		t.Errorf("P7.3: the model was changed: %v", model[:8])
	}
	clear(model)
	if !slices.Equal(in, []bool{true, true, false}) {
		t.Errorf("P7.3: the values are the model's memory: %v", in)
	}
	clear(in)
	model[1] = true
	if in = m.Inputs(model); !slices.Equal(in, []bool{true, false, false}) {
		t.Errorf("P7.2: %v", in)
	}
}

// TestTakenStays: later requests do not write into what was taken.
func TestTakenStays(t *testing.T) {
	g := made(8)
	m := cnf.New(g)
	var taken, want [][][]int
	for i := range 7 {
		m.Lit(g.And(2+2*i, 5+2*i))
		cs := m.Take()
		taken = append(taken, cs)
		var copied [][]int
		for _, c := range cs {
			copied = append(copied, slices.Clone(c))
		}
		want = append(want, copied)
	}
	for i := range taken {
		if !equal(taken[i], want[i]) {
			t.Errorf("P7.3: %v became %v", want[i], taken[i])
		}
	}
}

// TestGraphStays: a maker makes no nodes.
func TestGraphStays(t *testing.T) {
	g := made(3)
	e := g.Mux(2, 4, 7)
	nodes := g.Nodes()
	m := cnf.New(g)
	m.Lit(e)
	m.Lit(graph.Not(e))
	m.Take()
	m.Inputs([]bool{true, true})
	if g.Nodes() != nodes || len(g.Inputs()) != 3 {
		t.Errorf("P7.1: %d nodes", g.Nodes())
	}
}

// TestNoConstructor: nothing is promised of what New did not return, nor of a graph that is none, but no call panics.
func TestNoConstructor(t *testing.T) {
	for _, m := range []*cnf.Maker{nil, {}, cnf.New(nil), cnf.New(&graph.Graph{})} {
		for range 2 {
			m.Lit(0)
			m.Lit(1)
			m.Lit(-1)
			m.Lit(7)
			m.Take()
			if in := m.Inputs([]bool{true, true}); len(in) != 0 || m.Vars() > 1 {
				t.Errorf("Rules 1: %v, %d variables", in, m.Vars())
			}
		}
	}
}

func TestExamples(t *testing.T) {
	g := made(2)
	m := cnf.New(g)
	if l := m.Lit(g.And(2, 4)); l != 4 || m.Vars() != 4 {
		t.Errorf("the examples of layer 7: %d, %d variables", l, m.Vars())
	}
	if cs := m.Take(); !equal(cs, [][]int{{-1}, {-4, 2}, {-4, 3}, {4, -2, -3}}) {
		t.Errorf("the examples of layer 7: %v", cs)
	}
}
