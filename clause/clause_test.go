package clause_test

import (
	"math"
	"slices"
	"testing"

	"weirgate/api"
	"weirgate/clause"
)

// wrong holds numbers that are not literals.
var wrong = []int{0, api.MaxVar + 1, -api.MaxVar - 1, 2 * api.MaxVar, math.MaxInt, math.MinInt, math.MinInt + 1}

// dice returns a function whose results depend on the seed alone.
func dice(seed uint64) func(n int) int {
	return func(n int) int {
		seed = seed*6364136223846793005 + 1442695040888963407
		return int(seed>>33) % n
	}
}

// someClause returns a clause of up to most literals of the variables up to vars.
func someClause(roll func(int) int, vars, most int) []int {
	var c []int
	for range roll(most + 1) {
		l := 1 + roll(vars)
		if roll(2) == 0 {
			l = -l
		}
		c = append(c, l)
	}
	return c
}

// models calls f with each list of vars bools.
func models(vars int, f func(m []bool)) {
	for n := range 1 << vars {
		m := make([]bool, vars)
		for v := range m {
			m[v] = n>>v&1 == 1
		}
		f(m)
	}
}

func TestRight(t *testing.T) {
	for _, c := range [][]int{nil, {}, {1}, {-1}, {api.MaxVar}, {-api.MaxVar}, {1, 1, -1}, {5, -3, api.MaxVar, -api.MaxVar}} {
		if !clause.Right(c) {
			t.Errorf("P1.1: Right(%v) is false", c)
		}
	}
	for _, n := range wrong {
		for _, c := range [][]int{{n}, {n, 1}, {1, n}, {1, n, 2}, {1, -1, n}} {
			if clause.Right(c) {
				t.Errorf("P1.1: Right(%v) is true", c)
			}
			if got, idle := clause.Norm(c); len(got) != 0 || idle {
				t.Errorf("P1.1: Norm(%v): %v, %v", c, got, idle)
			}
		}
	}
}

func TestNorm(t *testing.T) {
	for _, x := range []struct {
		c, want []int
		idle    bool
	}{
		{nil, nil, false},
		{[]int{}, nil, false},
		{[]int{7}, []int{7}, false},
		{[]int{-7}, []int{-7}, false},
		{[]int{3, -1, 3}, []int{-1, 3}, false},
		{[]int{-2, -2, -2}, []int{-2}, false},
		{[]int{-5, 4, -3, 2}, []int{2, -3, 4, -5}, false},
		{[]int{-1, 1}, []int{1, -1}, true},
		{[]int{1, -1}, []int{1, -1}, true},
		{[]int{-4, 2, 4, 2, -4, -9}, []int{2, 4, -4, -9}, true},
		{[]int{2, -1, -2, 1}, []int{1, -1, 2, -2}, true},
		{[]int{1, -2}, []int{1, -2}, false},
		{[]int{api.MaxVar, 1, -api.MaxVar}, []int{1, api.MaxVar, -api.MaxVar}, true},
		{[]int{-api.MaxVar, api.MaxVar - 1}, []int{api.MaxVar - 1, -api.MaxVar}, false},
	} {
		got, idle := clause.Norm(x.c)
		if !slices.Equal(got, x.want) || idle != x.idle {
			t.Errorf("P1.1: Norm(%v): %v, %v", x.c, got, idle)
		}
	}
}

// plainNorm goes through the variables in order: slow, and plain.
func plainNorm(c []int, vars int) ([]int, bool) {
	var out []int
	idle := false
	for v := 1; v <= vars; v++ {
		yes, no := slices.Contains(c, v), slices.Contains(c, -v)
		if yes {
			out = append(out, v)
		}
		if no {
			out = append(out, -v)
		}
		idle = idle || yes && no
	}
	return out, idle
}

func TestNormOfMany(t *testing.T) {
	roll := dice(1)
	for range 3000 {
		vars := 1 + roll(12)
		c := someClause(roll, vars, 30)
		want, wantIdle := plainNorm(c, vars)
		got, idle := clause.Norm(c)
		if !slices.Equal(got, want) || idle != wantIdle {
			t.Fatalf("P1.1: Norm(%v): %v, %v", c, got, idle)
		}
		again, againIdle := clause.Norm(got)
		if !slices.Equal(again, got) || againIdle != idle {
			t.Fatalf("P1.1: Norm(%v), a normal form: %v, %v", got, again, againIdle)
		}
	}
}

func TestNormHoldsInTheSameModels(t *testing.T) {
	roll := dice(2)
	for range 200 {
		c := someClause(roll, 5, 6)
		form, idle := clause.Norm(c)
		always := true
		models(5, func(m []bool) {
			always = always && clause.Holds(c, m)
			if clause.Holds(c, m) != clause.Holds(form, m) {
				t.Fatalf("P1.1, P1.2: %v and %v in %v", c, form, m)
			}
		})
		if always != idle {
			t.Fatalf("P1.1, P1.2: %v: holds always %v, tautology %v", c, always, idle)
		}
	}
}

func TestHolds(t *testing.T) {
	m := []bool{true, false, true}
	for _, x := range []struct {
		c    []int
		want bool
	}{
		{nil, false},
		{[]int{}, false},
		{[]int{1}, true},
		{[]int{-1}, false},
		{[]int{2}, false},
		{[]int{-2}, true},
		{[]int{-1, 2}, false},
		{[]int{-1, 2, 3}, true},
		{[]int{3}, true},
		{[]int{4}, false}, // beyond the model
		{[]int{-4}, true},
		{[]int{api.MaxVar}, false},
		{[]int{-api.MaxVar}, true},
		{[]int{0, 1}, true},
		{[]int{math.MinInt, -1, math.MaxInt, -2}, true},
	} {
		if got := clause.Holds(x.c, m); got != x.want {
			t.Errorf("P1.2: Holds(%v): %v", x.c, got)
		}
	}
	if clause.Holds([]int{1}, nil) || !clause.Holds([]int{-1}, nil) {
		t.Error("P1.2: Holds in the empty model")
	}
}

func TestHoldsOfNumbersThatAreNoLiterals(t *testing.T) {
	long := make([]bool, 2*api.MaxVar)
	for _, value := range []bool{false, true} {
		for i := range long {
			long[i] = value
		}
		for _, m := range [][]bool{nil, {value}, long} {
			for _, n := range wrong {
				if clause.Holds([]int{n}, m) {
					t.Errorf("P1.2: Holds(%d) with %d bools %v", n, len(m), value)
				}
			}
		}
	}
	if !clause.Holds([]int{api.MaxVar}, long) || clause.Holds([]int{-api.MaxVar}, long) {
		t.Error("P1.2: Holds of the greatest variable")
	}
}

func TestAll(t *testing.T) {
	m := []bool{true, false}
	for _, x := range []struct {
		cs   [][]int
		want bool
	}{
		{nil, true},
		{[][]int{}, true},
		{[][]int{nil}, false},
		{[][]int{{1}}, true},
		{[][]int{{1}, {-2}, {-3}}, true},
		{[][]int{{2}, {1}}, false},
		{[][]int{{1}, {2}}, false},
		{[][]int{{1}, {2}, {1}}, false},
		{[][]int{{1}, {}}, false},
		{[][]int{{1}, {0}}, false},
		{[][]int{{1, 0}, {-2, math.MinInt}}, true},
	} {
		if got := clause.All(x.cs, m); got != x.want {
			t.Errorf("P1.2: All(%v): %v", x.cs, got)
		}
	}
}

func TestGreatest(t *testing.T) {
	for _, x := range []struct {
		cs   [][]int
		want int
	}{
		{nil, 0},
		{[][]int{nil, {}}, 0},
		{[][]int{{3}}, 3},
		{[][]int{{-3}}, 3},
		{[][]int{{1, -7, 2}, {}, {5}}, 7},
		{[][]int{{1}, {5}, {-9}}, 9},
		{[][]int{{9}, {5}, {1}}, 9},
		{[][]int{{api.MaxVar}}, api.MaxVar},
		{[][]int{{-api.MaxVar}, {1}}, api.MaxVar},
		{[][]int{wrong}, 0},
		{[][]int{wrong, {-2}, {0, 4, math.MinInt}}, 4},
	} {
		if got := clause.Greatest(x.cs); got != x.want {
			t.Errorf("P1.2: Greatest(%v): %d", x.cs, got)
		}
	}
}

// guarded returns c in a slice with spare capacity, and a function that reports whether nothing in it has changed.
func guarded(c []int) ([]int, func() bool) {
	whole := append(slices.Clone(c), 77, 78, 79)
	was := slices.Clone(whole)
	return whole[:len(c)], func() bool { return slices.Equal(whole, was) }
}

// fill writes all over c, its spare capacity included.
func fill(c []int) {
	c = c[:cap(c)]
	for i := range c {
		c[i] = -9
	}
}

func TestArgumentsStayAsTheyAre(t *testing.T) {
	for _, c := range [][]int{{}, {3, -1, 3}, {-2, 2, 2, 1}, {0, 5, 1}} {
		own, same := guarded(c)
		whole := []bool{true, false, true, true}
		m := whole[:3]
		cs := [][]int{own, {9}, {8}}[:1]
		clause.Right(own)
		clause.Norm(own)
		clause.Holds(own, m)
		clause.All(cs, m)
		clause.Greatest(cs)
		clause.Show(cs)
		if !same() {
			t.Errorf("P1.4: %v was changed", c)
		}
		if !slices.Equal(whole, []bool{true, false, true, true}) {
			t.Errorf("P1.4: the model was changed beside %v", c)
		}
		if more := cs[:3]; !slices.Equal(more[1], []int{9}) || !slices.Equal(more[2], []int{8}) {
			t.Errorf("P1.4: the list was changed beside %v", c)
		}
	}
}

func TestNormIsNewMemory(t *testing.T) {
	for _, c := range [][]int{{}, {1}, {1, 2, -3}, {2, 1, 2}} {
		own, same := guarded(c)
		first, _ := clause.Norm(own)
		want := slices.Clone(first)
		second, _ := clause.Norm(own)
		fill(second)
		if !same() {
			t.Errorf("P1.4: the result of Norm(%v) shares memory with its argument", c)
		}
		if !slices.Equal(first, want) {
			t.Errorf("P1.4: two results of Norm(%v) share memory", c)
		}
		fill(own)
		if !slices.Equal(first, want) {
			t.Errorf("P1.4: Norm(%v) keeps its argument", c)
		}
	}
}
