package rup_test

import (
	"math"
	"slices"
	"testing"

	"weirgate/api"
	"weirgate/rup"
)

// strange holds numbers that are not literals.
var strange = []int{0, api.MaxVar + 1, -api.MaxVar - 1, 2 * api.MaxVar, 1 << 24, 1<<32 + 1, -1<<32 - 1, math.MaxInt, math.MinInt, math.MinInt + 1}

func add(c ...int) api.Line { return api.Line{Clause: c} }

func del(c ...int) api.Line { return api.Line{Delete: true, Clause: c} }

func TestFollows(t *testing.T) {
	chain := [][]int{{-1, 2}, {-2, 3}, {-3, -1, 4}}
	for _, x := range []struct {
		cs   [][]int
		c    []int
		want bool
	}{
		{[][]int{{1, 2}, {-1, 2}}, []int{2}, true}, // the chapter's example
		{[][]int{{1, 2}, {-1, 2}}, []int{1}, false},
		{[][]int{{1, 2}, {-1, 2}}, []int{-2}, false},
		{[][]int{{1, 2}, {-1, 2}}, nil, false}, // without a decision nothing is implied
		{chain, []int{-1, 4}, true},
		{chain, []int{4, -1}, true},
		{chain, []int{-1, -2, 4}, true},
		{chain, []int{-1}, false},
		{chain, []int{4}, false},
		{chain, []int{-1, 5}, false},
		{chain, []int{-1, 4, 5, -6}, true},
		{chain, []int{-1, -1, 4, 4, -1}, true},
		{[][]int{{1}, {-1, 2}, {-2}}, nil, true},
		{[][]int{{1}, {-1, 2}, {-2}}, []int{9}, true},
		{[][]int{{1}, {-1, 2}, {-2, 3}}, []int{3}, true},
		{[][]int{{1}, {-1, 2}, {-2, 3}}, []int{-3}, false},
		{[][]int{{1}, {-1}}, []int{7}, true},
		{[][]int{{1, 2}, {1, -2}, {-1, 2}, {-1, -2}}, nil, false}, // no model, but nothing to begin with
		{[][]int{{1, 2}, {1, -2}, {-1, 2}, {-1, -2}}, []int{1}, true},
		{[][]int{{1, 2}, {1, -2}, {-1, 2}, {-1, -2}}, []int{3}, false},
		{[][]int{{api.MaxVar, -1}, {1}}, []int{api.MaxVar}, true},
		{[][]int{{-api.MaxVar, -1}, {1}}, []int{-api.MaxVar}, true},
		{[][]int{{1, 2, 3}}, []int{3, 2, 1}, true},
		{[][]int{{1, 2, 3}}, []int{1, 2}, false},
		{[][]int{{1, 2}}, []int{1, 2, 3}, true},
	} {
		if got := rup.Follows(x.cs, x.c); got != x.want {
			t.Errorf("P4.1: Follows(%v, %v): %v", x.cs, x.c, got)
		}
	}
}

func TestFollowsOfEmptyAndRepeated(t *testing.T) {
	for _, x := range []struct {
		cs   [][]int
		c    []int
		want bool
	}{
		{nil, nil, false},
		{[][]int{}, []int{}, false},
		{nil, []int{1}, false},
		{nil, []int{1, -1}, true},
		{nil, []int{3, 1, -4, 2, 4}, true},
		{[][]int{nil}, nil, true},
		{[][]int{{}}, []int{9}, true},
		{[][]int{{1, 2}, {}, {3}}, []int{-9}, true},
		{[][]int{{1, 1}}, []int{1}, true}, // counts once
		{[][]int{{1, 1, 1}, {-1, -1, 2, 2}}, []int{2}, true},
		{[][]int{{2, 1, 2}, {-1}}, []int{2}, true},
		{[][]int{{1, -1}}, []int{1}, false}, // two literals
		{[][]int{{1, -1}}, nil, false},
		{[][]int{{1, -1, 2}}, []int{2}, false},
		{[][]int{{1, -1, 2}, {-2}}, []int{1}, false},
		{[][]int{{1, -1, 2}, {1}}, []int{2}, false}, // it holds
		{[][]int{{1, -1, 2}, {-1}}, []int{2}, false},
		{[][]int{{2, 1, 2, -1}, {3, -2}}, []int{3}, false},
		{[][]int{{2, -2}, {1}}, []int{1, 5}, true},
	} {
		if got := rup.Follows(x.cs, x.c); got != x.want {
			t.Errorf("P4.1: Follows(%v, %v): %v", x.cs, x.c, got)
		}
	}
}

func TestFollowsOfNumbersThatAreNoLiterals(t *testing.T) {
	for _, n := range strange {
		for _, bad := range [][]int{{n}, {n, n}, {1, n}, {n, 1}, {1, -1, n}, {n, 1, -1}, {2, n, 1}} {
			for _, cs := range [][][]int{nil, {nil}, {{1}}, {{1}, {-1}}, {{1, 2}, {-1, 2}}} {
				if rup.Follows(cs, bad) {
					t.Errorf("P4.1: Follows(%v, %v)", cs, bad)
				}
			}
			for _, c := range [][]int{nil, {1}, {1, -1}, {2}, bad} {
				for _, cs := range [][][]int{{bad}, {{1}, bad}, {bad, {1}, {-1}}, {nil, bad}, {{1}, {2}, bad, {-1, 2}}} {
					if rup.Follows(cs, c) {
						t.Errorf("P4.1: Follows(%v, %v)", cs, c)
					}
				}
			}
		}
	}
}

// TestCheck: each case has a proof, a goal, and the answer.
func TestCheck(t *testing.T) {
	cs := [][]int{{1, 2}, {1, -2}, {-1, 3}, {-3, -1, 4}}
	for _, x := range []struct {
		proof []api.Line
		goal  []int
		want  int
	}{
		{nil, []int{1}, 0},
		{nil, []int{4}, 1},
		{nil, nil, 1},
		{nil, []int{4, -4}, 0},
		{nil, []int{7, 3, -7}, 0},
		{nil, []int{-3, 4, -1, 4}, 0},
		{[]api.Line{add(1)}, []int{4}, 0},
		{[]api.Line{add(1), add(3), add(4)}, []int{4}, 0},
		{[]api.Line{add(4)}, []int{4}, 1},
		{[]api.Line{add(1), add(-4)}, []int{4}, 2},
		{[]api.Line{add(1), add(-4), add(-1)}, []int{4}, 2},
		{[]api.Line{add(1), add(2)}, []int{4}, 2},
		{[]api.Line{add(1), add(3)}, []int{2}, 3},
		{[]api.Line{add(1), add(3)}, nil, 3},
		{[]api.Line{add()}, []int{1}, 1},
		{[]api.Line{add(1), add()}, []int{1}, 2},
		{[]api.Line{add(1, 1)}, []int{4, 4}, 0},
	} {
		if got := rup.Check(cs, x.proof, x.goal); got != x.want {
			t.Errorf("P4.2: with %v, %v: %d instead of %d", x.proof, x.goal, got, x.want)
		}
	}
	if got := rup.Check([][]int{{1, 2}, {-1, 2}}, nil, []int{2}); got != 0 {
		t.Errorf("P4.2: the chapter's example: %d", got)
	}
}

// TestCheckOfNone: no clauses, or the empty one.
func TestCheckOfNone(t *testing.T) {
	for _, x := range []struct {
		cs    [][]int
		proof []api.Line
		goal  []int
		want  int
	}{
		{nil, nil, nil, 1},
		{[][]int{}, []api.Line{}, []int{}, 1},
		{nil, nil, []int{1}, 1},
		{nil, nil, []int{1, -1}, 0},
		{nil, []api.Line{add()}, nil, 1},
		{nil, []api.Line{del()}, []int{1, -1}, 1},
		{nil, []api.Line{add(1, -1), add(2, -2)}, nil, 3},
		{[][]int{nil}, nil, nil, 0},
		{[][]int{{}}, nil, []int{5}, 0},
		{[][]int{{}}, []api.Line{add(), add(3), add(-3)}, nil, 0},
		{[][]int{{}}, []api.Line{del()}, nil, 2},
		{[][]int{{}}, []api.Line{del(), del()}, nil, 2},
		{[][]int{{}, nil}, []api.Line{del()}, nil, 0},
		{[][]int{{}, nil}, []api.Line{del(), del()}, nil, 3},
		{[][]int{{}}, []api.Line{add(1), del()}, []int{1}, 0},
		{[][]int{{}}, []api.Line{add(1), del()}, nil, 3},
		{[][]int{{}}, []api.Line{add(1), add(-1), del()}, nil, 0},
		{[][]int{{}, {1}}, []api.Line{del(), add(1, 2), add()}, []int{1}, 3},
		{[][]int{{1}, {-1}}, []api.Line{add(), del(1)}, nil, 0},
		{[][]int{{1}, {-1}}, []api.Line{add(), del(1), del()}, nil, 4},
	} {
		if got := rup.Check(x.cs, x.proof, x.goal); got != x.want {
			t.Errorf("P4.2: %v with %v, %v: %d instead of %d", x.cs, x.proof, x.goal, got, x.want)
		}
	}
}

// TestAddedImplies: what a clause that is added implies at once helps later, though the negation of a goal leads to it no more.
func TestAddedImplies(t *testing.T) {
	cs := [][]int{{1, 2, 3, 4}, {1, 2, 3, -4}, {-1, 5, 6}, {-1, 5, -6}, {-2}}
	for _, x := range []struct {
		more  [][]int
		proof []api.Line
		want  int
	}{
		{nil, []api.Line{add(1, 2, 3)}, 2},
		{[][]int{{-3}}, nil, 1},
		{[][]int{{-3}}, []api.Line{add(1, 2, 3)}, 0},
		{[][]int{{-3}}, []api.Line{add(3, 2, 1)}, 0},
		{[][]int{{-3}}, []api.Line{add(2, 1, 3), del(1, 2, 3)}, 3},
		{[][]int{{-3}}, []api.Line{add(2, 1, 3), del(-2)}, 3},
		{[][]int{{-3}}, []api.Line{add(2, 1, 3), add(1), del(-2)}, 0},
		{[][]int{{-3}}, []api.Line{add(1)}, 0},
		{[][]int{{-3}}, []api.Line{add(1), del(1)}, 3},
		{[][]int{{7, -3}, {-3, -7}}, []api.Line{add(-3), add(1, 3)}, 0},
	} {
		if got := rup.Check(slices.Concat(cs, x.more), x.proof, []int{5}); got != x.want {
			t.Errorf("P4.2: %v with %v: %d instead of %d", x.more, x.proof, got, x.want)
		}
	}
}

func TestDelete(t *testing.T) {
	for _, x := range []struct {
		cs    [][]int
		proof []api.Line
		goal  []int
		want  int
	}{
		{[][]int{{1, 2}, {1, -2}}, []api.Line{del(2, 1)}, []int{1}, 2}, // what followed only with it
		{[][]int{{1, 2}, {1, -2}}, []api.Line{add(1), del(2, 1)}, []int{1}, 0},
		{[][]int{{1, 2}, {1, -2}}, []api.Line{add(1), del(1)}, []int{1}, 0},
		{[][]int{{1, 2}, {1, -2}}, []api.Line{add(1), del(1), del(1)}, []int{1}, 3},
		{[][]int{{1, 2}, {1, -2}}, []api.Line{add(1), del(1), del(1, 2)}, []int{1}, 4},
		{[][]int{{1, 2}, {1, -2}}, []api.Line{del(1, 2), add(1, 2)}, []int{1}, 2},
		{[][]int{{1, 2}, {1, -2}}, []api.Line{del(1, 2), del(1, 2)}, []int{1, -1}, 2},
		{[][]int{{1, 2}, {2, 1}}, []api.Line{del(1, 2)}, []int{1, 2}, 0},
		{[][]int{{1, 2}, {2, 1}}, []api.Line{del(1, 2), del(2, 1)}, []int{1, 2}, 3},
		{[][]int{{1, 2}, {2, 1}}, []api.Line{del(1, 2), del(2, 1, 2), del(1, 2)}, []int{1, 2}, 3},
		{[][]int{{1, 2}}, []api.Line{add(1, 2), add(2, 1, 1), del(1, 2), del(1, 2)}, []int{1, 2}, 0},
		{[][]int{{1, 2}}, []api.Line{add(1, 2), del(1, 2), del(1, 2), del(1, 2)}, nil, 4},
		{[][]int{{3, 1, 3, 3}}, []api.Line{del(1, 1, 3)}, []int{1, 3}, 2}, // the same normal form
		{[][]int{{1, 2, 3}}, []api.Line{del(1, 2)}, []int{1, 2, 3}, 1},
		{[][]int{{1, 2}}, []api.Line{del(1, 2, 3)}, nil, 1},
		{[][]int{{1, 2}}, []api.Line{del(1, -2)}, nil, 1},
		{[][]int{{1, 2}}, []api.Line{del(1)}, nil, 1},
		{[][]int{{1, 2}}, []api.Line{del()}, nil, 1},
		{[][]int{{1, 2}}, []api.Line{del(1, 1)}, nil, 1},
		{[][]int{{1}, {-1, 2}}, []api.Line{del(2)}, []int{2}, 1}, // it follows, but is not present
		{[][]int{{1}, {-1, 2}, {-2, 3}}, []api.Line{del(-1, 2)}, []int{3}, 2},
		{[][]int{{1}, {-1, 2}, {-2, 3}}, []api.Line{add(2), del(-1, 2)}, []int{3}, 0},
		{[][]int{{1}, {-1, 2}, {-2, 3}}, []api.Line{add(2), del(1), del(-1, 2), add(3)}, []int{1}, 5},
		{[][]int{{1}, {-1, 2}, {-2, 3}}, []api.Line{add(2), del(2)}, []int{3}, 0},
		{[][]int{{1}, {-1, 2}, {-2, 3}}, []api.Line{add(2), del(2), del(1)}, []int{3}, 4},
		{[][]int{{1}, {-1}, {2, 3}}, []api.Line{del(-1)}, nil, 2},
		{[][]int{{1}, {-1}, {2, 3}}, []api.Line{del(2, 3)}, nil, 0},
		{[][]int{{1}, {-1}, {2, 3}}, []api.Line{del(1), add(3)}, nil, 2},
		{[][]int{{1}, {-1, 2}, {-1, -2}}, []api.Line{del(-2, -1)}, nil, 2},
		{[][]int{{1}, {-1, 2}, {-1, -2}}, []api.Line{add(), del(-2, -1)}, nil, 0},
		{[][]int{{1}, {-1, 2}, {-1, -2}, {-1, 3}}, []api.Line{del(1), add(-1), add(1)}, nil, 3},
	} {
		if got := rup.Check(x.cs, x.proof, x.goal); got != x.want {
			t.Errorf("P4.2: %v with %v, %v: %d instead of %d", x.cs, x.proof, x.goal, got, x.want)
		}
	}
}

// TestTautologies: a tautology follows, and is present like any other clause.
func TestTautologies(t *testing.T) {
	for _, x := range []struct {
		cs    [][]int
		proof []api.Line
		goal  []int
		want  int
	}{
		{nil, []api.Line{add(2, -2)}, nil, 2},
		{nil, []api.Line{add(2, -2), del(-2, 2)}, []int{2, -2}, 0},
		{nil, []api.Line{add(2, -2), del(-2, 2, -2), del(2, -2)}, []int{1, -1}, 3},
		{nil, []api.Line{add(2, -2), add(-2, 2), del(2, -2), del(2, -2)}, []int{1, -1}, 0},
		{nil, []api.Line{del(1, -1)}, nil, 1},
		{[][]int{{1, -1}}, []api.Line{del(-1, 1)}, nil, 2},
		{[][]int{{1, -1}}, []api.Line{del(-1, 1), del(1, -1)}, nil, 2},
		{[][]int{{1, -1, 2}}, []api.Line{del(1, -1)}, nil, 1},
		{[][]int{{1, -1, 2}}, []api.Line{del(2, -1, 1, 2)}, []int{3, -3}, 0},
		{[][]int{{1, -1, 2}}, []api.Line{del(1, 2)}, nil, 1},
		{[][]int{{1, -1}}, []api.Line{del(2, -2)}, nil, 1},
		{[][]int{{1, -1}, {-1, 1, 1}}, []api.Line{del(1, -1), del(1, -1), del(1, -1)}, nil, 3},
		{[][]int{{1, -1, 2}, {-2}}, []api.Line{add(1)}, nil, 1},
		{[][]int{{1, -1, 2}, {-2, 1}}, []api.Line{add(1)}, nil, 1},
		{[][]int{{2}}, []api.Line{add(2, 1, -1), del(2)}, []int{2}, 3},
		{[][]int{{2}, {-2}}, []api.Line{add(1, -1), del(2), add(2, -2)}, nil, 4},
	} {
		if got := rup.Check(x.cs, x.proof, x.goal); got != x.want {
			t.Errorf("P4.2: %v with %v, %v: %d instead of %d", x.cs, x.proof, x.goal, got, x.want)
		}
	}
}

func TestCheckOfNumbersThatAreNoLiterals(t *testing.T) {
	cs := [][]int{{1, 2}, {-1, 2}, {}}
	for _, n := range strange {
		for _, bad := range [][]int{{n}, {n, n}, {1, n}, {n, 1}, {1, -1, n}, {n, 2}} {
			for _, x := range []struct {
				cs    [][]int
				proof []api.Line
				goal  []int
				want  int
			}{
				{cs, nil, bad, -1},
				{cs, []api.Line{add(2), del(7)}, bad, -1},
				{cs, []api.Line{{Clause: bad}}, bad, -1},
				{[][]int{bad}, nil, []int{1, -1}, -1},
				{[][]int{{1}, bad}, []api.Line{add(1)}, []int{1}, -1},
				{[][]int{bad, {}}, []api.Line{del(7)}, []int{1}, -1},
				{[][]int{bad}, []api.Line{{Delete: true, Clause: bad}}, []int{1, -1}, -1},
				{[][]int{{}, bad, {1}}, []api.Line{{Clause: bad}}, bad, -1},
				{cs, []api.Line{{Clause: bad}}, []int{2}, 1}, // though everything follows
				{cs, []api.Line{{Delete: true, Clause: bad}}, []int{2}, 1},
				{cs, []api.Line{add(2), {Delete: true, Clause: bad}, {Clause: bad}}, []int{2}, 2},
				{cs, []api.Line{del(1, 2), del(1, 2), {Clause: bad}}, []int{2}, 2}, // the first one counts
				{cs, []api.Line{add(1, -1), {Clause: bad}, del(5)}, []int{2}, 2},
			} {
				if got := rup.Check(x.cs, x.proof, x.goal); got != x.want {
					t.Errorf("P4.2: %v with %v, %v: %d instead of %d", x.cs, x.proof, x.goal, got, x.want)
				}
			}
		}
	}
}

// TestAlike: clauses of other literals are others, however near.
func TestAlike(t *testing.T) {
	var units []int
	for _, v := range []int{1, 2, 127, 128, 255, 256, 257, 511, 512, 1 + 1<<15, 1 << 16, 1 + 1<<16, api.MaxVar - 1, api.MaxVar} {
		units = append(units, v, -v)
	}
	for _, l := range units {
		for _, m := range units {
			want := 1
			if l == m {
				want = 2
			}
			if got := rup.Check([][]int{{l}}, []api.Line{del(m)}, nil); got != want {
				t.Errorf("P4.2: {%d}, of which {%d} is deleted: %d", l, m, got)
			}
			if got := rup.Check([][]int{{-7, 3, l}}, []api.Line{del(m, 3, -7)}, nil); got != want {
				t.Errorf("P4.2: {-7 3 %d}, of which {%d 3 -7} is deleted: %d", l, m, got)
			}
			if got := rup.Check([][]int{{l}, {m}, {l, 3}}, []api.Line{del(l, m, -7)}, nil); got != 1 {
				t.Errorf("P4.2: {%d}, {%d}, of which both with another literal are deleted: %d", l, m, got)
			}
		}
	}
}

func TestModel(t *testing.T) {
	cs := [][]int{{1, 2}, {-2, 3}, {-4}}
	m := []bool{true, false, true}
	for _, x := range []struct {
		cs     [][]int
		model  []bool
		assume []int
		want   bool
	}{
		{cs, m, nil, true},
		{cs, m, []int{1}, true},
		{cs, m, []int{1, -2, 3, -4, 1}, true},
		{cs, m, []int{-1}, false},
		{cs, m, []int{1, 2}, false},
		{cs, m, []int{2, 1}, false},
		{cs, m, []int{1, -1}, false},
		{cs, m, []int{4}, false}, // beyond the model
		{cs, m, []int{-4, -api.MaxVar}, true},
		{cs, m, []int{api.MaxVar}, false},
		{cs, []bool{true}, nil, true},
		{cs, []bool{false, true}, nil, false},
		{cs, []bool{false, true}, []int{2}, false},
		{cs, []bool{true, true, true, true}, nil, false},
		{cs, nil, nil, false},
		{cs, []bool{}, []int{-1}, false},
		{nil, nil, nil, true},
		{[][]int{}, nil, []int{-3}, true},
		{nil, nil, []int{3}, false},
		{nil, []bool{false, false, true}, []int{3}, true},
		{[][]int{nil}, m, nil, false},
		{[][]int{{1}, {}}, m, []int{1}, false},
		{[][]int{{-1, 1}, {7, -7}}, nil, nil, true},
		{[][]int{{1, 1}, {3, -9, 3}}, m, nil, true},
		{[][]int{{-5}, {5, -6}}, m, nil, true},
		{[][]int{{-5}, {5}}, m, nil, false},
	} {
		if got := rup.Model(x.cs, x.model, x.assume...); got != x.want {
			t.Errorf("P4.3: Model(%v, %v, %v): %v", x.cs, x.model, x.assume, got)
		}
	}
}

func TestModelOfNumbersThatAreNoLiterals(t *testing.T) {
	long := slices.Repeat([]bool{true}, 2*api.MaxVar+2)
	for _, n := range strange {
		for _, m := range [][]bool{nil, {true, true}, long} {
			for _, cs := range [][][]int{{{n}}, {{1, n}}, {{n, 1, -1}}, {{1, -1}, {2, -2, n}}, {{n, n}, {1, -1}}} {
				if rup.Model(cs, m) || rup.Model(cs, m, 1) || rup.Model(cs, m, -3, n) {
					t.Errorf("P4.3: %v, with a model of %d", cs, len(m))
				}
			}
			for _, assume := range [][]int{{n}, {n, 1}, {1, n}, {-1, n}, {n, n}} {
				if rup.Model(nil, m, assume...) || rup.Model([][]int{{1, -1}}, m, assume...) {
					t.Errorf("P4.3: assumptions %v, with a model of %d", assume, len(m))
				}
			}
		}
	}
	if !rup.Model([][]int{{api.MaxVar}}, long, api.MaxVar, 1) || rup.Model(nil, long, -api.MaxVar) {
		t.Error("P4.3: the greatest variable")
	}
}
