package bits_test

import (
	"math"
	"slices"
	"testing"

	"weirgate/api"
	"weirgate/bits"
	"weirgate/graph"
)

// dice returns a function whose results depend on the seed alone.
func dice(seed uint64) func(n int) int {
	return func(n int) int {
		seed = seed*6364136223846793005 + 1442695040888963407
		return int(seed>>33) % n
	}
}

// limited is the width that counts for w.
func limited(w int) int {
	switch {
	case w < 1:
		return 1
	case w > 16:
		return 16
	}
	return w
}

// wrapped is the number of w bits that n wraps around to.
func wrapped(n, w int) int {
	all := 1
	for range limited(w) {
		all *= 2
	}
	n %= all
	if n < -all/2 {
		n += all
	}
	if n >= all/2 {
		n -= all
	}
	return n
}

// digits are the bits of n, from the remainders of halving.
func digits(n, w int) []bool {
	bs := make([]bool, limited(w))
	for i := range bs {
		bs[i] = n%2 != 0
		if n%2 < 0 {
			n--
		}
		n /= 2
	}
	return bs
}

// number is what bits come to: each counts twice as much as the one before it, and the sign counts below 0.
func number(bs []bool) int {
	if len(bs) > 16 {
		bs = bs[:16]
	}
	n, worth := 0, 1
	for i, b := range bs {
		if i == len(bs)-1 {
			worth = -worth
		}
		if b {
			n += worth
		}
		worth *= 2
	}
	return n
}

// operation of two vectors, and what it comes to as numbers of w bits, the width of the wider one.
type operation struct {
	name  string
	edges func(g *graph.Graph, a, b []int) []int
	plain func(a, b, w int) int
}

func truth(b bool) int {
	if b {
		return -1 // the number of one bit that is true
	}
	return 0
}

// operations are those of P6.2 (Mux as two, which choose the first one and the second one by an edge 1 or 0) and of P6.3, whose results are vectors of one bit.
var operations = []operation{
	{"P6.2: Add", bits.Add, func(a, b, w int) int { return wrapped(a+b, w) }},
	{"P6.2: Sub", bits.Sub, func(a, b, w int) int { return wrapped(a-b, w) }},
	{"P6.2: Mul", bits.Mul, func(a, b, w int) int { return wrapped(a*b, w) }},
	{"P6.2: Div", bits.Div, func(a, b, w int) int {
		if b == 0 {
			return 0
		}
		return wrapped(a/b, w)
	}},
	{"P6.2: Rem", bits.Rem, func(a, b, w int) int {
		if b == 0 {
			return 0
		}
		return a % b
	}},
	{"P6.2: Mux of 1", func(g *graph.Graph, a, b []int) []int { return bits.Mux(g, 1, a, b) }, func(a, b, w int) int { return a }},
	{"P6.2: Mux of 0", func(g *graph.Graph, a, b []int) []int { return bits.Mux(g, 0, a, b) }, func(a, b, w int) int { return b }},
	{"P6.3: Same", func(g *graph.Graph, a, b []int) []int { return []int{bits.Same(g, a, b)} }, func(a, b, w int) int { return truth(a == b) }},
	{"P6.3: Less", func(g *graph.Graph, a, b []int) []int { return []int{bits.Less(g, a, b)} }, func(a, b, w int) int { return truth(a < b) }},
	{"P6.3: Some", func(g *graph.Graph, a, b []int) []int { return []int{bits.Some(g, a)} }, func(a, b, w int) int { return truth(a != 0) }},
}

// wide is the width of an operation's result.
func (o operation) wide(w int) int {
	if o.name[:4] == "P6.3" {
		return 1
	}
	return w
}

// counted is the list that counts for v: that of one false edge for one that is no vector.
func counted(v []int) []int {
	if len(v) == 0 || len(v) > 16 {
		return []int{0}
	}
	return v
}

// own reports whether all are edges of the graph.
func own(g *graph.Graph, es []int) bool {
	return !slices.ContainsFunc(es, func(e int) bool { return e < 0 || e > 2*g.Nodes()-1 })
}

// agree fails if an operation on two lists, with some model, does not come to what the numbers come to that they are with it.
func agree(t *testing.T, g *graph.Graph, models [][]bool, left, right []int) {
	t.Helper()
	a, b := counted(left), counted(right)
	w := max(len(a), len(b))
	es := slices.Concat(a, b)
	for _, o := range operations {
		v := o.edges(g, left, right)
		if len(v) != o.wide(w) || !own(g, v) {
			t.Fatalf("%s of %d and %d bits: %v", o.name, len(a), len(b), v)
		}
		es = append(es, v...)
	}
	for _, m := range models {
		bs := g.Eval(m, es...)
		x, y := number(bs[:len(a)]), number(bs[len(a):len(a)+len(b)])
		bs = bs[len(a)+len(b):]
		for _, o := range operations {
			got, want := number(bs[:o.wide(w)]), o.plain(x, y, w)
			bs = bs[o.wide(w):]
			if got != want {
				t.Fatalf("%s of %d and %d, of %d and %d bits: %d; asked for: %d", o.name, x, y, len(a), len(b), got, want)
			}
		}
	}
}

// models returns all models of so many inputs.
func models(count int) [][]bool {
	out := make([][]bool, 1<<count)
	for m := range out {
		out[m] = make([]bool, count)
		for i := range out[m] {
			out[m][i] = m>>i&1 == 1
		}
	}
	return out
}

// TestAllPairs: every pair of numbers of small widths.
func TestAllPairs(t *testing.T) {
	for v := 1; v <= 5; v++ {
		for w := 1; w <= 5; w++ {
			g := graph.New()
			agree(t, g, models(v+w), bits.Inputs(g, v), bits.Inputs(g, w))
		}
	}
	g := graph.New()
	agree(t, g, models(12), bits.Inputs(g, 6), bits.Inputs(g, 6))
}

// TestWithItself: both are one number.
func TestWithItself(t *testing.T) {
	for w := 1; w <= 8; w++ {
		g := graph.New()
		v := bits.Inputs(g, w)
		agree(t, g, models(w), v, v)
		agree(t, g, models(w), v, bits.Sub(g, bits.Const(0, w), v))
	}
}

// TestAllPairsOfConstants: their results are constants, and make no nodes.
func TestAllPairsOfConstants(t *testing.T) {
	g := graph.New()
	for v := 1; v <= 4; v++ {
		for w := 1; w <= 4; w++ {
			for n := range 1 << (v + w) {
				agree(t, g, [][]bool{nil}, bits.Const(n, v), bits.Const(n>>v, w))
			}
		}
	}
	for _, a := range special {
		for _, b := range special {
			agree(t, g, [][]bool{nil}, bits.Const(a, 16), bits.Const(b, 16))
			agree(t, g, [][]bool{nil}, bits.Const(a, 16), bits.Const(b, 9))
			agree(t, g, [][]bool{nil}, bits.Const(a, 8), bits.Const(b, 16))
			agree(t, g, [][]bool{nil}, bits.Const(a, 8), bits.Const(b, 8))
		}
	}
	if g.Nodes() != 1 {
		t.Errorf("P6.2: operations with constants made nodes: %d", g.Nodes())
	}
}

// special are numbers at the edges of widths.
var special = []int{0, 1, 2, 3, 7, 10, 100, 126, 127, 128, 129, 181, 182, 255, 256, 257, 1000, 4095, 16384, 32766, 32767, 32768, 32769, 65534, 65535, 65536, 65537, -1, -2, -3, -7, -10, -100, -127, -128, -129, -181, -182, -256, -257, -4096, -32767, -32768, -32769}

// far are numbers that no width has.
var far = []int{math.MaxInt, math.MaxInt - 1, math.MinInt, math.MinInt + 1, 1 << 32, 1<<32 - 1, -1 << 32, 1<<40 + 5, -1<<40 - 5, 1 << 62}

// someModel is a model in which the inputs of a and b have these numbers.
func someModel(a, v, b, w int) []bool {
	return append(digits(a, v), digits(b, w)...)
}

// TestGreatWidths: numbers at the edges of widths up to 16, and others.
func TestGreatWidths(t *testing.T) {
	roll := dice(6)
	for _, c := range [][2]int{{16, 16}, {8, 8}, {7, 7}, {16, 1}, {1, 16}, {16, 8}, {8, 16}, {15, 16}, {16, 2}, {9, 7}} {
		var ms [][]bool
		for _, a := range special {
			for _, b := range special {
				ms = append(ms, someModel(a, c[0], b, c[1]))
			}
		}
		for range 300 {
			ms = append(ms, someModel(roll(1<<16), c[0], roll(1<<16), c[1]))
		}
		g := graph.New()
		a := bits.Inputs(g, c[0])
		agree(t, g, ms, a, bits.Inputs(g, c[1]))
	}
}

// TestMixed: vectors of constants, inputs, negations and ands, and lists that are no vectors.
func TestMixed(t *testing.T) {
	for seed := range uint64(200) {
		roll := dice(seed)
		g := graph.New()
		bits.Inputs(g, 6)
		for range roll(8) {
			g.And(roll(2*g.Nodes()), roll(2*g.Nodes()))
		}
		list := func() []int {
			v := make([]int, roll(8))
			if roll(10) == 0 {
				v = make([]int, 15+roll(4))
			}
			for i := range v {
				v[i] = roll(2 + roll(2*g.Nodes()-1))
			}
			return v
		}
		agree(t, g, models(6), list(), list())
	}
}

// TestMux: with an edge that chooses.
func TestMux(t *testing.T) {
	for v := 1; v <= 3; v++ {
		for w := 1; w <= 3; w++ {
			g := graph.New()
			c, d := g.Input(), g.Input()
			a, b := bits.Inputs(g, v), bits.Inputs(g, w)
			for _, e := range []int{c, graph.Not(c), g.And(c, d), g.Or(c, d), a[0], graph.Not(b[w-1]), 0, 1} {
				r := bits.Mux(g, e, a, b)
				if len(r) != max(v, w) || !own(g, r) {
					t.Fatalf("P6.2: Mux of %d and %d bits: %v", v, w, r)
				}
				for _, m := range models(2 + v + w) {
					want := number(m[2+v:])
					if g.Eval(m, e)[0] {
						want = number(m[2 : 2+v])
					}
					if got := number(g.Eval(m, r...)); got != want {
						t.Fatalf("P6.2: Mux of %d and %d bits by %d with %v: %d; asked for: %d", v, w, e, m, got, want)
					}
				}
			}
		}
	}
}

// TestNumbers: Trim, Bits, Value, Const, for any number and any width.
func TestNumbers(t *testing.T) {
	roll := dice(1)
	numbers := slices.Concat(special, far)
	for range 100 {
		numbers = append(numbers, (roll(1<<30)<<30+roll(1<<30))<<roll(8), -roll(1<<20))
	}
	g := graph.New()
	for _, w := range []int{math.MinInt, -1 << 32, -64, -1, 0, 1, 2, 3, 4, 5, 6, 7, 8, 9, 10, 11, 12, 13, 14, 15, 16, 17, 32, 63, 64, 65, 1 << 32, math.MaxInt} {
		for _, n := range numbers {
			want, ds := wrapped(n, w), digits(n, w)
			if got := bits.Trim(n, w); got != want {
				t.Fatalf("P6.1: Trim(%d, %d): %d; asked for: %d", n, w, got, want)
			}
			if got := bits.Bits(n, w); !slices.Equal(got, ds) {
				t.Fatalf("P6.1: Bits(%d, %d): %v; asked for: %v", n, w, got, ds)
			}
			if got := bits.Value(ds); got != want || number(ds) != want {
				t.Fatalf("P6.1: Value of the bits of %d, %d of them: %d; asked for: %d", n, w, got, want)
			}
			c := bits.Const(n, w)
			if len(c) != limited(w) || !slices.Equal(g.Eval(nil, c...), ds) || slices.Max(c) > 1 || slices.Min(c) < 0 {
				t.Fatalf("P6.1: Const(%d, %d): %v; asked for: %v", n, w, c, ds)
			}
		}
	}
	if len(bits.Bits(0, api.MaxWidth+1)) != api.MaxWidth || g.Nodes() != 1 {
		t.Errorf("P6.1: %d bits, %d nodes", len(bits.Bits(0, api.MaxWidth+1)), g.Nodes())
	}
}
