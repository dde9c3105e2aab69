package sat_test

import (
	"math"
	"slices"
	"testing"

	"weirgate/api"
	"weirgate/clause"
	"weirgate/sat"
)

// models returns all models of the clauses in which the assumptions are true, by trying.
func models(n int, cs [][]int, assume []int) [][]bool {
	var all [][]bool
	for bits := range 1 << n {
		m := make([]bool, n)
		for v := range m {
			m[v] = bits>>v&1 == 1
		}
		if clause.All(cs, m) && allTrue(assume, m) {
			all = append(all, m)
		}
	}
	return all
}

func allTrue(ls []int, m []bool) bool {
	return !slices.ContainsFunc(ls, func(l int) bool { return !clause.Holds([]int{l}, m) })
}

// check checks all that is promised about an answer, except the proof.
func check(t *testing.T, s *sat.Solver, answer int, assume []int) {
	t.Helper()
	n, cs := s.Vars(), s.Clauses()
	found := models(n, cs, assume)
	model, core := s.Model(), s.Core()
	switch {
	case answer == api.Sat && (len(model) != n || !clause.All(cs, model) || !allTrue(assume, model)):
		t.Fatalf("P3.3: %v is no model of %v with %v", model, cs, assume)
	case answer == api.Unsat && len(found) > 0:
		t.Fatalf("P3.2: %v with %v: Unsat, but %v", cs, assume, found[0])
	case answer != api.Sat && len(model) != 0:
		t.Fatalf("P3.3: a model after %d", answer)
	case answer != api.Unsat && len(core) != 0:
		t.Fatalf("P3.3: a core after %d", answer)
	case answer == api.Unsat:
		checkCore(t, n, cs, core, assume)
	}
}

func checkCore(t *testing.T, n int, cs [][]int, core, assume []int) {
	t.Helper()
	if form, _ := clause.Norm(core); !slices.Equal(form, core) {
		t.Fatalf("P3.3: the core %v is not in the order of a normal form", core)
	}
	for _, l := range core {
		if !slices.Contains(assume, l) {
			t.Fatalf("P3.3: the core %v is not of the assumptions %v", core, assume)
		}
	}
	if len(models(n, cs, core)) > 0 {
		t.Fatalf("P3.3: %v has a model with the core %v", cs, core)
	}
}

// TestAnswers: random clauses and assumptions, few of each, so that all models can be tried.
func TestAnswers(t *testing.T) {
	roll := dice(3)
	count := map[int]int{}
	for range 3000 {
		n := 1 + roll(8)
		s := made(t, n, pick(roll, n, roll(5*n), 4)...)
		for range 4 {
			assume := literals(roll, n, roll(4))
			answer := s.Solve(-1, assume...)
			if answer == api.Unknown {
				t.Fatalf("P3.2: Unknown without a limit: %v with %v", s.Clauses(), assume)
			}
			count[answer]++
			check(t, s, answer, assume)
			checkProof(t, s, answer)
		}
	}
	if count[api.Sat] < 1000 || count[api.Unsat] < 1000 {
		t.Errorf("answers: %v", count)
	}
}

// TestMore: clauses are added between the answers.
func TestMore(t *testing.T) {
	roll := dice(5)
	for range 600 {
		n := 3 + roll(7)
		s := made(t, n)
		var lines []api.Line
		for range 12 {
			for _, c := range pick(roll, n, roll(n), 4) {
				s.Add(c)
				if len(s.Model()) != 0 || len(s.Core()) != 0 {
					t.Fatal("P3.3: a model or a core after Add")
				}
			}
			budget := roll(12) - 4
			assume := literals(roll, n, roll(3))
			answer := s.Solve(budget, assume...)
			check(t, s, answer, assume)
			checkProof(t, s, answer)
			if answer == api.Unknown && budget < 0 {
				t.Fatal("P3.2: Unknown without a limit")
			}
			now := s.Proof()
			if len(now) < len(lines) || !slices.EqualFunc(lines, now[:len(lines)], sameLine) {
				t.Fatalf("P3.4: earlier lines are missing: %v, %v", lines, now)
			}
			lines = now
		}
	}
}

func sameLine(a, b api.Line) bool {
	return a.Delete == b.Delete && slices.Equal(a.Clause, b.Clause)
}

func TestForeignAssumptions(t *testing.T) {
	for _, cs := range [][][]int{{}, {{1, 2}, {-1}}, {{1}, {-1}}, {nil}, {{1, 2}, {1, -2}, {-1, 2}, {-1, -2}}} {
		for _, before := range []int{0, 1} {
			s := made(t, 3, cs...)
			for range before {
				s.Solve(-1)
			}
			lines, conflicts := len(s.Proof()), s.Conflicts()
			for _, l := range strange(3) {
				for _, assume := range [][]int{{l}, {1, l}, {l, 2}, {3, -3, l}} {
					if a := s.Solve(-1, assume...); a != api.Unknown {
						t.Errorf("P3.2: %v with %v: %d", cs, assume, a)
					}
					if len(s.Model()) != 0 || len(s.Core()) != 0 || len(s.Proof()) != lines || s.Conflicts() != conflicts {
						t.Errorf("P3.3: %v with %v: %v, %v, %v", cs, assume, s.Model(), s.Core(), s.Proof())
					}
				}
			}
		}
	}
}

// TestUncounted: what the clauses alone imply is looked at before an assumption is made, and its conflict is not counted.
func TestUncounted(t *testing.T) {
	for _, cs := range [][][]int{{nil}, {{1}, {-1}}, {{1}, {-1, 2}, {-2}}, {{-2, 3}, {-1, 2}, {-3, -2}, {1}}, {{1, 2, 3}, {-1}, {-2}, {-3}}} {
		for _, assume := range [][]int{nil, {4}, {1}, {-1}, {2, 3}, {1, -1}, {4, -4}} {
			s := made(t, 4, cs...)
			for range 3 {
				if a := s.Solve(0, assume...); a != api.Unsat || s.Conflicts() != 0 || len(s.Core()) != 0 {
					t.Errorf("P3.2: %v with %v: %d, %d conflicts, core %v", cs, assume, a, s.Conflicts(), s.Core())
				}
				checkProof(t, s, api.Unsat)
			}
			if len(s.Proof()) != 3 {
				t.Errorf("P3.4: %v with %v, 3 times: %v", cs, assume, s.Proof())
			}
		}
	}
}

// TestAlreadyFalse: an assumption that is false already is no conflict.
func TestAlreadyFalse(t *testing.T) {
	cs := [][]int{{-1, 2}, {-2, 3}, {-4}, {-2, -5}}
	cases := []struct{ assume, core []int }{
		{[]int{4}, []int{4}},
		{[]int{1, 4}, []int{4}},
		{[]int{1, -3}, []int{1, -3}},
		{[]int{-3, 1}, []int{1, -3}},
		{[]int{-3, 2}, []int{2, -3}},
		{[]int{6, 1, -6, -3}, []int{6, -6}},
		{[]int{6, 1, -3, -6}, []int{1, -3}},
		{[]int{5, 3, 6, 2}, []int{2, 5}},
		{[]int{5, 5, 3, 3, 2, 2}, []int{2, 5}},
		{[]int{6, -6}, []int{6, -6}},
		{[]int{-6, 6}, []int{6, -6}},
		{[]int{-6, -6, 6, -6}, []int{6, -6}},
		{[]int{4, -4}, []int{4}},
		{[]int{-4, 4}, []int{4}},
		{[]int{1, 2, 3, -4, -5, 6, 1, -5}, nil},
		{[]int{-1, -2, -3}, nil},
	}
	for _, c := range cases {
		s := made(t, 6, cs...)
		want := api.Unsat
		if c.core == nil {
			want = api.Sat
		}
		if a := s.Solve(0, c.assume...); a != want || s.Conflicts() != 0 || !slices.Equal(s.Core(), c.core) {
			t.Errorf("P3.2: with %v: %d, %d conflicts, core %v", c.assume, a, s.Conflicts(), s.Core())
		}
		checkProof(t, s, want)
	}
}

// TestOpposed: with a core that has a literal and its negation no line is added.
func TestOpposed(t *testing.T) {
	s := made(t, 3, []int{1, 2})
	for _, assume := range [][]int{{3, -3}, {-3, 3}, {1, 3, 2, -3}, {-1, -3, 3}} {
		if a := s.Solve(0, assume...); a != api.Unsat || !slices.Equal(s.Core(), []int{3, -3}) || len(s.Proof()) != 0 {
			t.Errorf("P3.4: with %v: %d, core %v, proof %v", assume, a, s.Core(), s.Proof())
		}
	}
}

// TestAnew: each Unsat adds its last line anew.
func TestAnew(t *testing.T) {
	s := made(t, 3, []int{1, 2}, []int{-1, 3})
	for i := range 3 {
		if a := s.Solve(0, -3, -2); a != api.Unsat || len(s.Proof()) != i+1 || !slices.Equal(s.Proof()[i].Clause, []int{2, 3}) {
			t.Errorf("P3.4: answer %d, proof %v", a, s.Proof())
		}
	}
	s.Solve(0)
	if len(s.Proof()) != 3 {
		t.Errorf("P3.4: after Sat: %v", s.Proof())
	}
	s.Add(nil)
	for i := range 3 {
		if a := s.Solve(-1, -3, 1); a != api.Unsat || len(s.Core()) != 0 || len(s.Proof()) != i+4 || len(s.Proof()[i+3].Clause) != 0 {
			t.Errorf("P3.4: answer %d, proof %v", a, s.Proof())
		}
	}
}

func TestExamples(t *testing.T) {
	s := made(t, 2, []int{1, 2}, []int{-1})
	if s.Solve(0) != api.Sat || !slices.Equal(s.Model(), []bool{false, true}) {
		t.Errorf("P3.3: %v", s.Model())
	}
	s.Add([]int{-2})
	if p := s.Proof(); s.Solve(0) != api.Unsat || len(p) != 0 {
		t.Errorf("P3.4: %v", p)
	}
	if p := s.Proof(); len(p) != 1 || p[0].Delete || len(p[0].Clause) != 0 {
		t.Errorf("P3.4: %v", p)
	}
}

// TestBudgetZero: the first conflict with a decision or an assumption is one too many.
func TestBudgetZero(t *testing.T) {
	s := made(t, 3, []int{1, 2}, []int{1, -2}, []int{-1, 2}, []int{-1, -2})
	for range 3 {
		if a := s.Solve(0); a != api.Unknown || s.Conflicts() != 0 || len(s.Proof()) != 0 {
			t.Errorf("P3.2: %d, %d conflicts, proof %v", a, s.Conflicts(), s.Proof())
		}
	}
	if a := s.Solve(1); a != api.Unsat || s.Conflicts() != 1 {
		t.Errorf("P3.2: %d, %d conflicts", a, s.Conflicts())
	}
	if a := s.Solve(0, 3); a != api.Unsat || s.Conflicts() != 1 {
		t.Errorf("P3.2: %d, %d conflicts", a, s.Conflicts())
	}
	s = made(t, 3, []int{-1, 2}, []int{-1, -2})
	if a := s.Solve(0, 1); a != api.Unknown || s.Conflicts() != 0 || len(s.Core()) != 0 || len(s.Model()) != 0 {
		t.Errorf("P3.2: %d, %d conflicts", a, s.Conflicts())
	}
	if a := s.Solve(1, 1); a != api.Unsat || s.Conflicts() != 1 || !slices.Equal(s.Core(), []int{1}) {
		t.Errorf("P3.2: %d, %d conflicts, core %v", a, s.Conflicts(), s.Core())
	}
	if a := s.Solve(0, 3, 1); a != api.Unsat || s.Conflicts() != 1 || !slices.Equal(s.Core(), []int{1}) {
		t.Errorf("P3.2: %d, %d conflicts, core %v", a, s.Conflicts(), s.Core())
	}
	if a := s.Solve(0, -1, 3); a != api.Sat {
		t.Errorf("P3.2: %d", a)
	}
}

// TestRepeated: assumptions may be repeated, and be true already, more often than there are variables.
func TestRepeated(t *testing.T) {
	s := made(t, 5, []int{-1, 2}, []int{-3, 4, 5}, []int{-3, 4, -5}, []int{-3, -4, 5}, []int{-3, -4, -5})
	for range 2 {
		if a := s.Solve(-1, slices.Repeat([]int{1, 2, 1}, 50)...); a != api.Sat || s.Model()[2] {
			t.Errorf("P3.2: %d, %v", a, s.Model())
		}
		if a := s.Solve(-1, slices.Repeat([]int{2, 1, 2, 3}, 50)...); a != api.Unsat || !slices.Equal(s.Core(), []int{3}) {
			t.Errorf("P3.2: %d, core %v", a, s.Core())
		}
		checkProof(t, s, api.Unsat)
	}
}

// TestBudget: a search is the same whatever its budget is, up to the conflict that is one too many.
func TestBudget(t *testing.T) {
	roll := dice(11)
	for range 40 {
		n := 20 + roll(30)
		cs := pick(roll, n, 0, 3)
		for range n * 42 / 10 {
			cs = append(cs, literals(roll, n, 3))
		}
		assume := literals(roll, n, roll(3))
		whole := made(t, n, cs...)
		answer := whole.Solve(math.MinInt, assume...)
		for budget := range whole.Conflicts() {
			s := made(t, n, cs...)
			if a := s.Solve(budget, assume...); a != api.Unknown || s.Conflicts() != budget || len(s.Model()) != 0 || len(s.Core()) != 0 {
				t.Fatalf("P3.2: %d with the budget %d of %d: %d conflicts", a, budget, whole.Conflicts(), s.Conflicts())
			}
			s.Solve(2, assume...)
			if s.Conflicts() > budget+2 {
				t.Fatalf("P3.2: with the budget 2: %d more conflicts", s.Conflicts()-budget)
			}
		}
		for _, budget := range []int{whole.Conflicts(), whole.Conflicts() + 1, math.MaxInt, -1, -2} {
			s := made(t, n, cs...)
			if a := s.Solve(budget, assume...); a != answer || s.Conflicts() != whole.Conflicts() || !slices.Equal(s.Model(), whole.Model()) || !slices.Equal(s.Core(), whole.Core()) {
				t.Fatalf("P3.2: %d with the budget %d, %d conflicts; otherwise %d, %d conflicts", a, budget, s.Conflicts(), answer, whole.Conflicts())
			}
		}
	}
}

// TestHard: so many conflicts that learned clauses are deleted; the proofs are as right as short ones.
func TestHard(t *testing.T) {
	n, cs := pigeons(8, 7) // well over 1000 conflicts
	s := made(t, n+1, cs...)
	if a := s.Solve(100); a != api.Unknown || s.Conflicts() != 100 {
		t.Errorf("P3.2: %d, %d conflicts", a, s.Conflicts())
	}
	if a := s.Solve(-1, n+1, -n-1); a != api.Unsat || s.Conflicts() < 100 {
		t.Errorf("P3.2: %d, %d conflicts", a, s.Conflicts())
	}
	if a := s.Solve(-1); a != api.Unsat || len(s.Core()) != 0 {
		t.Errorf("P3.2: %d, core %v", a, s.Core())
	}
	deleted := slices.ContainsFunc(s.Proof(), func(l api.Line) bool { return l.Delete })
	if !deleted {
		t.Errorf("no line of %d deletes a clause", len(s.Proof()))
	}
	checkProof(t, s, api.Unsat)
}

// TestHardWithAssumption: the same question as an assumption, of clauses that have a model without it.
func TestHardWithAssumption(t *testing.T) {
	n, cs := pigeons(7, 6)
	guard := n + 1
	for i := range cs {
		cs[i] = append(cs[i], -guard)
	}
	s := made(t, n+2, cs...)
	for _, assume := range [][]int{{n + 2, guard}, {guard, -n - 2}} {
		if a := s.Solve(-1, assume...); a != api.Unsat || !slices.Equal(s.Core(), []int{guard}) {
			t.Errorf("P3.2: %d, core %v", a, s.Core())
		}
		checkEnd(t, s, s.Proof())
		if a := s.Solve(-1); a != api.Sat || !clause.All(cs, s.Model()) || s.Model()[guard-1] {
			t.Errorf("P3.2: %d", a)
		}
	}
	s.Add([]int{guard})
	if a := s.Solve(0); a != api.Unsat {
		t.Errorf("P3.2: %d", a)
	}
	checkProof(t, s, api.Unsat)
}

// TestHardModels: of random clauses some have models, though none that is found at once; each one that is found is excluded by a clause of one literal, until there is none.
func TestHardModels(t *testing.T) {
	for _, seed := range []uint64{5, 8, 24, 25, 11, 12} {
		roll := dice(seed)
		n := 150 + int(seed%3)*10
		var cs [][]int
		for range n * 42 / 10 {
			cs = append(cs, literals(roll, n, 3))
		}
		s := made(t, n, cs...)
		a := s.Solve(-1)
		if a != api.Sat {
			t.Errorf("P3.2: %d for seed %d", a, seed)
		}
		for v := 1; a == api.Sat; v++ {
			if !clause.All(s.Clauses(), s.Model()) {
				t.Errorf("P3.3: %v is no model", s.Model())
			}
			other := []int{v}
			if s.Model()[v-1] {
				other = []int{-v}
			}
			s.Add(other)
			a = s.Solve(-1)
		}
		if a != api.Unsat {
			t.Errorf("P3.2: %d for seed %d", a, seed)
		}
		checkProof(t, s, a)
	}
}

// TestSame: equal calls have equal results.
func TestSame(t *testing.T) {
	run := func() (*sat.Solver, []int) {
		roll := dice(23)
		s := made(t, 60)
		var answers []int
		for range 15 {
			for range 20 {
				s.Add(literals(roll, 60, 3))
			}
			answers = append(answers, s.Solve(roll(200), literals(roll, 60, roll(4))...))
		}
		return s, answers
	}
	a, as := run()
	b, bs := run()
	if !slices.Equal(as, bs) || !slices.Equal(a.Model(), b.Model()) || !slices.Equal(a.Core(), b.Core()) || a.Conflicts() != b.Conflicts() || !slices.EqualFunc(a.Proof(), b.Proof(), sameLine) {
		t.Errorf("P3.5: %v and %v, %d and %d conflicts", as, bs, a.Conflicts(), b.Conflicts())
	}
}

// spoil overwrites a slice, and what lies behind it.
func spoil(ls []int) {
	ls = ls[:cap(ls)]
	for i := range ls {
		ls[i] = 77
	}
}

// TestMemory: what is handed in and out is not used any more.
func TestMemory(t *testing.T) {
	cs := [][]int{{2, 1, 2}, {-1, 3}, {-2, 3, -2}, {3, -3}, {1, 2, 3, 4}}
	s := made(t, 4)
	for _, c := range cs {
		own := append(make([]int, 0, 20), c...)
		spare := own[:20]
		s.Add(own)
		if !slices.Equal(own, c) || slices.ContainsFunc(spare[len(c):], func(n int) bool { return n != 0 }) {
			t.Errorf("P3.5: Add changed %v to %v", c, spare)
		}
		spoil(own)
	}
	want := [][]int{{1, 2}, {-1, 3}, {-2, 3}, {3, -3}, {1, 2, 3, 4}}
	for range 2 {
		got := s.Clauses()
		if !slices.EqualFunc(got, want, slices.Equal) {
			t.Fatalf("P3.5: Clauses: %v", got)
		}
		for _, c := range got {
			c = append(c, 5)
			spoil(c)
		}
		if got = s.Clauses(); !slices.EqualFunc(got, want, slices.Equal) {
			t.Fatalf("P3.5: Clauses after its result was changed: %v", got)
		}
		for _, c := range got {
			spoil(c)
		}
		clear(got)
	}
	assume := append(make([]int, 0, 20), 4, -3, 4, 1, -3)
	if s.Solve(-1, assume...) != api.Unsat || !slices.Equal(assume, []int{4, -3, 4, 1, -3}) || slices.ContainsFunc(assume[5:20], func(n int) bool { return n != 0 }) {
		t.Errorf("P3.5: Solve changed %v", assume[:20])
	}
	spoil(assume)
	for range 2 {
		core := s.Core()
		if !slices.Equal(core, []int{1, -3}) && !slices.Equal(core, []int{-3}) {
			t.Errorf("P3.5: Core: %v", core)
		}
		spoil(core)
		lines := s.Proof()
		checkProof(t, s, api.Unsat)
		for _, l := range lines {
			spoil(l.Clause)
		}
		clear(lines)
	}
	s.Solve(-1)
	for range 2 {
		m := s.Model()
		if !clause.All(want, m) {
			t.Errorf("P3.5: Model: %v", m)
		}
		for i := range m {
			m[i] = !m[i]
		}
	}
}
