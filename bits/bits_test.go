package bits_test

import (
	"math"
	"slices"
	"testing"

	"weirgate/api"
	"weirgate/bits"
	"weirgate/graph"
)

func TestValueOfAnyBits(t *testing.T) {
	yes := func(count int) []bool {
		bs := make([]bool, count)
		for i := range bs {
			bs[i] = true
		}
		return bs
	}
	no := func(count int) []bool { return make([]bool, count) }
	cases := []struct {
		bs   []bool
		want int
	}{
		{nil, 0},
		{[]bool{}, 0},
		{no(1), 0},
		{yes(1), -1},
		{[]bool{true, false}, 1},
		{[]bool{false, true}, -2},
		{[]bool{true, true, false}, 3},
		{[]bool{false, false, true}, -4},
		{yes(15), -1},
		{append(yes(15), false), 32767},
		{append(no(15), true), -32768},
		{yes(16), -1},
		{append(yes(16), false), -1},
		{append(no(16), true), 0},
		{append(append(yes(15), false), true), 32767},
		{append(append(no(15), true), false), -32768},
		{append(append(no(15), true), yes(100)...), -32768},
		{no(1000), 0},
		{yes(1000), -1},
	}
	for i, c := range cases {
		if n := bits.Value(c.bs); n != c.want {
			t.Errorf("P6.1: Value %d: %d; asked for: %d", i, n, c.want)
		}
	}
}

func TestInputs(t *testing.T) {
	g := graph.New()
	g.And(g.Input(), g.Input())
	next := 2 * g.Nodes()
	for _, c := range [][2]int{{3, 3}, {1, 1}, {16, 16}, {17, 16}, {0, 1}, {-5, 1}, {math.MinInt, 1}, {math.MaxInt, 16}} {
		before := len(g.Inputs())
		v := bits.Inputs(g, c[0])
		want := make([]int, c[1])
		for i := range want {
			want[i], next = next, next+2
		}
		if !slices.Equal(v, want) || !slices.Equal(g.Inputs()[before:], v) || g.Nodes() != next/2 {
			t.Errorf("P6.1: Inputs of %d bits: %v; asked for: %v", c[0], v, want)
		}
	}
}

func TestWide(t *testing.T) {
	long := []int{10, 11, 12, 13, 14, 15, 16, 17, 18, 19, 20, 21, 22, 23, 24, 25, 26}
	cases := []struct {
		v    []int
		w    int
		want []int
	}{
		{[]int{1, 0, 5}, 3, []int{1, 0, 5}},
		{[]int{1, 0, 5}, 2, []int{1, 0}},
		{[]int{1, 0, 5}, 1, []int{1}},
		{[]int{1, 0, 5}, 0, []int{1}},
		{[]int{1, 0, 5}, math.MinInt, []int{1}},
		{[]int{1, 0, 5}, 6, []int{1, 0, 5, 5, 5, 5}},
		{[]int{4}, 3, []int{4, 4, 4}},
		{[]int{1, 0}, 99, []int{1, 0, 0, 0, 0, 0, 0, 0, 0, 0, 0, 0, 0, 0, 0, 0}},
		{[]int{0, 1}, math.MaxInt, []int{0, 1, 1, 1, 1, 1, 1, 1, 1, 1, 1, 1, 1, 1, 1, 1}},
		{long[:16], 16, long[:16]},
		{long[:16], 17, long[:16]},
		{long[:16], 4, long[:4]},
		{long[:15], 16, append(slices.Clone(long[:15]), 24)},
		{long, 3, []int{0, 0, 0}},
		{long, 0, []int{0}},
		{nil, 2, []int{0, 0}},
		{[]int{}, -1, []int{0}},
		{nil, 20, make([]int, 16)},
		{make([]int, 1000), 2, []int{0, 0}},
		{[]int{-1, -4, math.MinInt}, 4, []int{-1, -4, math.MinInt, math.MinInt}}, // no edges of any graph
		{[]int{1 << 40, math.MaxInt}, 1, []int{1 << 40}},
	}
	for _, c := range cases {
		if v := bits.Wide(c.v, c.w); !slices.Equal(v, c.want) {
			t.Errorf("P6.1: Wide(%v, %d): %v; asked for: %v", c.v, c.w, v, c.want)
		}
	}
}

// TestWrappingAndDivision: some numbers written out.
func TestWrappingAndDivision(t *testing.T) {
	cases := []struct {
		a, b, w                 int
		add, sub, mul, div, rem int
		same, less, some        bool
	}{
		{7, 1, 4, -8, 6, 7, 7, 0, false, false, true},
		{-7, 2, 4, -5, 7, 2, -3, -1, false, true, true},
		{7, -2, 4, 5, -7, 2, -3, 1, false, false, true},
		{-7, -2, 4, 7, -5, -2, 3, -1, false, true, true},
		{-8, -1, 4, 7, -7, -8, -8, 0, false, true, true},
		{-8, -8, 4, 0, 0, 0, 1, 0, true, false, true},
		{-8, 7, 4, -1, 1, -8, -1, -1, false, true, true},
		{7, -8, 4, -1, -1, -8, 0, 7, false, false, true},
		{5, 0, 4, 5, 5, 0, 0, 0, false, false, true},
		{-8, 0, 4, -8, -8, 0, 0, 0, false, true, true},
		{0, 0, 4, 0, 0, 0, 0, 0, true, false, false},
		{0, -3, 4, -3, 3, 0, 0, 0, false, false, false},
		{-1, -1, 1, 0, 0, -1, -1, 0, true, false, true},
		{-1, 0, 1, -1, -1, 0, 0, 0, false, true, true},
		{0, -1, 1, -1, -1, 0, 0, 0, false, false, false},
		{100, 100, 8, -56, 0, 16, 1, 0, true, false, true},
		{-128, -1, 8, 127, -127, -128, -128, 0, false, true, true},
		{-128, 3, 8, -125, 125, -128, -42, -2, false, true, true},
		{32767, 1, 16, -32768, 32766, 32767, 32767, 0, false, false, true},
		{-32768, -1, 16, 32767, -32767, -32768, -32768, 0, false, true, true},
		{-32768, 1, 16, -32767, 32767, -32768, -32768, 0, false, true, true},
		{300, 300, 16, 600, 0, 24464, 1, 0, true, false, true},
	}
	for _, c := range cases {
		g := graph.New()
		value := func(v []int) int { return bits.Value(g.Eval(nil, v...)) }
		a, b := bits.Const(c.a, c.w), bits.Const(c.b, c.w)
		got := [5]int{value(bits.Add(g, a, b)), value(bits.Sub(g, a, b)), value(bits.Mul(g, a, b)), value(bits.Div(g, a, b)), value(bits.Rem(g, a, b))}
		if want := [5]int{c.add, c.sub, c.mul, c.div, c.rem}; got != want {
			t.Errorf("P6.2: %d and %d with %d bits: %v; asked for: %v", c.a, c.b, c.w, got, want)
		}
		truths := g.Eval(nil, bits.Same(g, a, b), bits.Less(g, a, b), bits.Some(g, a))
		if !slices.Equal(truths, []bool{c.same, c.less, c.some}) {
			t.Errorf("P6.3: %d and %d with %d bits: %v", c.a, c.b, c.w, truths)
		}
	}
}

// TestNoVectors: a list that is no vector counts as the one with one false edge, in each function, and on each side.
func TestNoVectors(t *testing.T) {
	long := slices.Repeat([]int{1}, api.MaxWidth+1)
	for _, none := range [][]int{nil, {}, long, make([]int, 1000)} {
		for _, o := range operations {
			g, twin := graph.New(), graph.New()
			v, w := bits.Inputs(g, 3), bits.Inputs(twin, 3)
			for i, got := range [][]int{o.edges(g, none, v), o.edges(g, v, none), o.edges(g, none, none)} {
				want := [][]int{o.edges(twin, []int{0}, w), o.edges(twin, w, []int{0}), o.edges(twin, []int{0}, []int{0})}[i]
				if !slices.Equal(got, want) {
					t.Errorf("%s with a list of %d: %v; asked for: %v", o.name, len(none), got, want)
				}
			}
		}
	}
}

// TestMuxByNoEdge: it counts as false, also if it is a number that the next node of the graph will have.
func TestMuxByNoEdge(t *testing.T) {
	g := graph.New()
	a, b := bits.Inputs(g, 3), bits.Inputs(g, 2)
	n := 2 * g.Nodes()
	for _, c := range []int{-1, -2, -3, n, n + 1, n + 2, n + 3, -n, 1 << 32, 1<<32 + 1, math.MaxInt, math.MaxInt - 1, math.MinInt, math.MinInt + 1} {
		if v := bits.Mux(g, c, a, b); !slices.Equal(v, []int{b[0], b[1], b[1]}) {
			t.Errorf("P6.2: Mux by %d: %v", c, v)
		}
		if v := bits.Mux(g, c, b, a); !slices.Equal(v, a) {
			t.Errorf("P6.2: Mux by %d: %v", c, v)
		}
	}
	if 2*g.Nodes() != n {
		t.Errorf("P6.2: %d nodes", g.Nodes())
	}
}

// TestForeignBits: nothing is promised of vectors with numbers that are no edges of the graph, but no call panics, and what it answers are edges.
func TestForeignBits(t *testing.T) {
	strange := []int{-1, math.MinInt, 1 << 40, math.MaxInt, -2, 12, 13, 14}
	for _, o := range operations {
		g := graph.New()
		v := bits.Inputs(g, 3)
		if got := o.edges(g, strange, v); len(got) != o.wide(len(strange)) || !own(g, got) {
			t.Errorf("%s: %v", o.name, got)
		}
		if got := o.edges(g, v, strange); len(got) != o.wide(len(strange)) || !own(g, got) {
			t.Errorf("%s: %v", o.name, got)
		}
	}
}

// TestFull: nothing is promised of a full graph, but no call panics, and the results have their widths.
func TestFull(t *testing.T) {
	g := graph.New()
	a, b := bits.Inputs(g, 16), bits.Inputs(g, 16)
	for g.Nodes() < api.MaxNodes-50 {
		g.Input()
	}
	for range 2 {
		for _, o := range operations {
			if v := o.edges(g, a, b); len(v) != o.wide(16) || !own(g, v) {
				t.Errorf("%s: %v", o.name, v)
			}
		}
		if v := bits.Inputs(g, 4); len(v) != 4 || !own(g, v) {
			t.Errorf("P6.1: %v", v)
		}
	}
	if g.Nodes() != api.MaxNodes {
		t.Errorf("P6.2: %d nodes", g.Nodes())
	}
}

// TestNoConstructor: nothing is promised of graphs that New did not return, but no call panics.
func TestNoConstructor(t *testing.T) {
	for _, g := range []*graph.Graph{nil, {}} {
		for _, o := range operations {
			if v := o.edges(g, []int{0, 1, 2}, []int{1, 4}); len(v) != o.wide(3) {
				t.Errorf("%s: %v", o.name, v)
			}
		}
		if v := bits.Inputs(g, 4); len(v) != 4 {
			t.Errorf("P6.1: %v", v)
		}
	}
}

// spoil writes into a result, its spare capacity too.
func spoil(v []int) {
	v = v[:cap(v)]
	for i := range v {
		v[i] = 1 << 50
	}
}

// TestMemory: results are new memory, and arguments stay as they are.
func TestMemory(t *testing.T) {
	same := func(g *graph.Graph, a, b []int) []int { return bits.Wide(a, len(a)) }
	less := func(g *graph.Graph, a, b []int) []int { return bits.Wide(a, 2) }
	more := func(g *graph.Graph, a, b []int) []int { return bits.Wide(a, 16) }
	all := append(slices.Clone(operations), operation{"P6.1: Wide", same, nil}, operation{"P6.1: Wide", less, nil}, operation{"P6.1: Wide", more, nil})
	for _, o := range all {
		for _, widths := range [][2]int{{4, 4}, {4, 3}, {3, 4}, {16, 16}} {
			g := graph.New()
			a, b := make([]int, 0, 40), make([]int, 0, 40)
			a, b = append(a, bits.Inputs(g, widths[0])...), append(b, bits.Inputs(g, widths[1])...)
			wasA, wasB := slices.Clone(a[:40]), slices.Clone(b[:40])
			first := o.edges(g, a, b)
			was, nodes := slices.Clone(first), g.Nodes()
			spoil(first)
			if !slices.Equal(a[:40], wasA) || !slices.Equal(b[:40], wasB) {
				t.Fatalf("%s: an argument was changed", o.name)
			}
			second := o.edges(g, a, b)
			clear(a[:40])
			clear(b[:40])
			if !slices.Equal(second, was) || g.Nodes() != nodes {
				t.Errorf("%s: a result was retained, or is an argument's memory", o.name)
			}
		}
	}
}

// TestMemoryOfConstructors: what is written into the results of Const, Inputs and Bits changes nothing.
func TestMemoryOfConstructors(t *testing.T) {
	g := graph.New()
	spoil(bits.Const(5, 4))
	in := bits.Inputs(g, 4)
	spoil(in)
	clear(bits.Bits(5, 4))
	if !slices.Equal(bits.Const(5, 4), []int{1, 0, 1, 0}) || !slices.Equal(bits.Bits(5, 4), []bool{true, false, true, false}) || !slices.Equal(g.Inputs(), []int{2, 4, 6, 8}) {
		t.Error("P6.1: a result was retained")
	}
	spoil(bits.Wide(nil, 4))
	spoil(bits.Add(g, nil, nil))
	if !slices.Equal(bits.Wide(nil, 4), make([]int, 4)) || !slices.Equal(bits.Add(g, nil, nil), []int{0}) {
		t.Error("P6.1: what counts as no vector was retained")
	}
	bs := append(make([]bool, 0, 40), true, false, true)
	if bits.Value(bs) != -3 || !slices.Equal(bs[:5], []bool{true, false, true, false, false}) {
		t.Error("P6.1: Value changes its argument")
	}
}

// TestOneGraph: what was made before does not change what an operation states, and what is made twice is made once.
func TestOneGraph(t *testing.T) {
	g := graph.New()
	a, b := bits.Inputs(g, 3), bits.Inputs(g, 3)
	for range 2 {
		agree(t, g, models(6), a, b)
		agree(t, g, models(6), b, a)
		agree(t, g, models(6), bits.Mul(g, a, b), bits.Div(g, b, a))
	}
	nodes := g.Nodes()
	agree(t, g, models(6), a, b)
	if g.Nodes() != nodes {
		t.Errorf("P6.2: operations that were made already made nodes: %d, %d", nodes, g.Nodes())
	}
}

func TestExamples(t *testing.T) {
	g := graph.New()
	value := func(v []int) int { return bits.Value(g.Eval(nil, v...)) }
	four := func(n int) []int { return bits.Const(n, 4) }
	if n := value(bits.Add(g, four(7), four(1))); n != -8 {
		t.Errorf("the examples of layer 6: 7 + 1 is %d", n)
	}
	if q, r := value(bits.Div(g, four(-7), four(2))), value(bits.Rem(g, four(-7), four(2))); q != -3 || r != -1 {
		t.Errorf("the examples of layer 6: -7 / 2 is %d, with the remainder %d", q, r)
	}
}
