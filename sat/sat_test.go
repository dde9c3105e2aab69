package sat_test

import (
	"math"
	"slices"
	"testing"

	"weirgate/api"
	"weirgate/sat"
)

// strange returns numbers that are not literals of a variable from 1 to n.
func strange(n int) []int {
	return []int{0, n + 1, -n - 1, 2*n + 2, api.MaxVar + 1, -api.MaxVar - 1, 1 << 31, 1<<32 + 1, -1 << 31, -1<<32 - 1, math.MaxInt, math.MinInt, math.MinInt + 1}
}

// dice returns a function whose results depend on the seed alone.
func dice(seed uint64) func(n int) int {
	return func(n int) int {
		seed = seed*6364136223846793005 + 1442695040888963407
		return int(seed>>33) % n
	}
}

func made(t *testing.T, n int, cs ...[]int) *sat.Solver {
	t.Helper()
	s, e := sat.New(n)
	if s == nil || e != api.OK {
		t.Fatalf("P3.1: New(%d): %v", n, e)
	}
	for _, c := range cs {
		if e := s.Add(c); e != api.OK {
			t.Fatalf("P3.1: Add(%v): %v", c, e)
		}
	}
	return s
}

// pick returns clauses of random literals, of 0 to most literals each.
func pick(roll func(int) int, n, clauses, most int) [][]int {
	cs := make([][]int, clauses)
	for i := range cs {
		cs[i] = literals(roll, n, 1+roll(most))
	}
	return cs
}

func literals(roll func(int) int, n, count int) []int {
	var c []int
	for range count {
		l := 1 + roll(n)
		if roll(2) == 0 {
			l = -l
		}
		c = append(c, l)
	}
	return c
}

// pigeons returns the clauses which say that each of some pigeons is in a hole, and no two in the same one, and how many variables they have.
func pigeons(count, holes int) (int, [][]int) {
	in := func(p, h int) int { return p*holes + h + 1 }
	var cs [][]int
	for p := range count {
		var c []int
		for h := range holes {
			c = append(c, in(p, h))
			for q := range p {
				cs = append(cs, []int{-in(p, h), -in(q, h)})
			}
		}
		cs = append(cs, c)
	}
	return count * holes, cs
}

func TestNew(t *testing.T) {
	for _, n := range []int{-1, -2, -api.MaxVar, math.MinInt, api.MaxVar + 1, 1 << 32, math.MaxInt} {
		if s, e := sat.New(n); s != nil || e != api.ErrArg {
			t.Errorf("P3.1: New(%d): %v, %v", n, s, e)
		}
	}
	for _, n := range []int{0, 1, 2, 7, api.MaxVar - 1, api.MaxVar} {
		s := made(t, n)
		if s.Vars() != n || len(s.Clauses()) != 0 || len(s.Model()) != 0 || len(s.Core()) != 0 || len(s.Proof()) != 0 || s.Conflicts() != 0 {
			t.Errorf("P3.1: New(%d) has %d variables, clauses %v, proof %v", n, s.Vars(), s.Clauses(), s.Proof())
		}
		if s.Solve(0) != api.Sat || len(s.Model()) != n {
			t.Errorf("P3.2: without clauses, of %d variables: a model of %d", n, len(s.Model()))
		}
	}
}

func TestAddErrors(t *testing.T) {
	for _, n := range []int{0, 1, 3, api.MaxVar} {
		s := made(t, n)
		for _, l := range strange(n) {
			for _, c := range [][]int{{l}, {l, l}, {l, -l}} {
				if e := s.Add(c); e != api.ErrArg {
					t.Errorf("P3.1: Add(%v) with %d variables: %v", c, n, e)
				}
			}
			if n > 0 && (s.Add([]int{n, l}) != api.ErrArg || s.Add([]int{l, -n}) != api.ErrArg || s.Add([]int{1, -1, l}) != api.ErrArg) {
				t.Errorf("P3.1: Add of %d beside literals, with %d variables", l, n)
			}
		}
		if len(s.Clauses()) != 0 || s.Solve(0) != api.Sat {
			t.Errorf("P3.1: an error had an effect: %v", s.Clauses())
		}
	}
}

// TestAddErrorKeepsAnswer: a call that returns an error has no effect, not even on what the last answer found.
func TestAddErrorKeepsAnswer(t *testing.T) {
	s := made(t, 2, []int{1, 2}, []int{-1})
	s.Solve(-1)
	if s.Add([]int{3}) != api.ErrArg || !slices.Equal(s.Model(), []bool{false, true}) {
		t.Errorf("P3.1: Model after an error: %v", s.Model())
	}
	s.Solve(-1, -2)
	if s.Add([]int{1, 0}) != api.ErrArg || !slices.Equal(s.Core(), []int{-2}) {
		t.Errorf("P3.1: Core after an error: %v", s.Core())
	}
}

func TestClauses(t *testing.T) {
	cases := []struct{ c, form []int }{
		{[]int{3, -1, 3}, []int{-1, 3}},
		{[]int{2, -2, 2}, []int{2, -2}},
		{[]int{-2, 2}, []int{2, -2}},
		{[]int{4}, []int{4}},
		{[]int{4}, []int{4}},
		{[]int{-4, -3, -2, -1}, []int{-1, -2, -3, -4}},
		{[]int{-3, -1, 3}, []int{-1, 3, -3}},
		{[]int{4, -4, 1, -1}, []int{1, -1, 4, -4}},
		{[]int{-4, -4, -4}, []int{-4}},
		{nil, nil},
		{[]int{1, 2}, []int{1, 2}},
		{[]int{}, nil},
	}
	s := made(t, 4)
	for i, c := range cases {
		if e := s.Add(c.c); e != api.OK {
			t.Fatalf("P3.1: Add(%v): %v", c.c, e)
		}
		got := s.Clauses()
		if len(got) != i+1 {
			t.Fatalf("P3.1: after %d clauses there are %d", i+1, len(got))
		}
		for k := range got {
			if !slices.Equal(got[k], cases[k].form) {
				t.Errorf("P3.1: clause %d of %v is %v", k, got, cases[k].form)
			}
		}
		if i%3 == 0 {
			s.Solve(-1)
		}
	}
	if s.Vars() != 4 {
		t.Errorf("P3.1: Vars %d", s.Vars())
	}
}

// TestFull: what counts is how often something was added, not how many clauses are left of it.
func TestFull(t *testing.T) {
	s := made(t, 3, []int{3})
	same := [][]int{{1, -1}, {1, 2}, {1, 2}, {2, 1, 2}, {3}, {3, -2}, {-1, 2, 1}, {-2, 3}}
	for i := 1; i < api.MaxClause; i++ {
		if e := s.Add(same[i%len(same)]); e != api.OK {
			t.Fatalf("P3.1: clause %d: %v", i+1, e)
		}
	}
	if s.Solve(-1, -2) != api.Sat {
		t.Fatal("P3.2: a full solver")
	}
	for _, c := range [][]int{{1, -1}, {1, 2}, {3}, {-3}, nil} {
		if e := s.Add(c); e != api.ErrBig {
			t.Errorf("P3.1: Add(%v) to a full solver: %v", c, e)
		}
	}
	if e := s.Add([]int{4}); e != api.ErrArg {
		t.Errorf("P3.1: Add of what is no clause to a full solver: %v", e)
	}
	if !slices.Equal(s.Model(), []bool{true, false, true}) || len(s.Clauses()) != api.MaxClause || s.Solve(-1) != api.Sat {
		t.Errorf("P3.1: ErrBig had an effect: %v, %d clauses", s.Model(), len(s.Clauses()))
	}
}

// TestFullOfEmpty: also when the clauses are known to have no model, all that is added counts.
func TestFullOfEmpty(t *testing.T) {
	s := made(t, 1)
	for i := range api.MaxClause {
		if e := s.Add(nil); e != api.OK {
			t.Fatalf("P3.1: clause %d: %v", i+1, e)
		}
	}
	if s.Add(nil) != api.ErrBig || s.Add([]int{0}) != api.ErrArg || s.Solve(0) != api.Unsat || len(s.Clauses()) != api.MaxClause {
		t.Errorf("P3.1: full of empty clauses: %d", len(s.Clauses()))
	}
}

// TestWide: all variables, in clauses as long as they can be.
func TestWide(t *testing.T) {
	s := made(t, api.MaxVar)
	var up, down []int
	for v := 1; v <= api.MaxVar; v++ {
		up, down = append(up, v), append(down, -v)
	}
	s.Add(up)
	s.Add(append(slices.Clone(up), down...))
	for v := 1; v < api.MaxVar; v++ {
		s.Add([]int{-v, v + 1})
	}
	if s.Solve(0, 1) != api.Sat || slices.Contains(s.Model(), false) {
		t.Error("P3.2: a chain of all variables")
	}
	if s.Solve(0, 1, -api.MaxVar) != api.Unsat || !slices.Equal(s.Core(), []int{1, -api.MaxVar}) {
		t.Errorf("P3.3: Core of a chain: %v", s.Core())
	}
	if s.Solve(-1, -api.MaxVar) != api.Unsat || !slices.Equal(s.Core(), []int{-api.MaxVar}) {
		t.Errorf("P3.3: Core of the end of a chain: %v", s.Core())
	}
}

func TestNobody(t *testing.T) {
	for _, s := range []*sat.Solver{nil, {}} {
		if s.Solve(-1, 1) != api.Unknown || s.Add([]int{1}) == api.OK || s.Vars() != 0 || len(s.Clauses()) != 0 || len(s.Model()) != 0 || len(s.Core()) != 0 || len(s.Proof()) != 0 || s.Conflicts() != 0 {
			t.Error("P3.1: a solver that New did not return")
		}
		s.Solve(-1)
		s.Add(nil)
		s.Solve(-1)
	}
}
