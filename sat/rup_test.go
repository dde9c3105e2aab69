package sat_test

import (
	"slices"
	"testing"

	"weirgate/api"
	"weirgate/clause"
	"weirgate/sat"
)

// checker goes through the lines of a proof, by unit propagation from the start for each line: slow, and plain.
type checker struct {
	clauses [][]int
	gone    []bool        // which of them were deleted
	with    map[int][]int // by a literal: the clauses that have it
	value   map[int]bool  // of literals
}

func newChecker(cs [][]int) *checker {
	k := &checker{with: map[int][]int{}}
	for _, c := range cs {
		k.add(c)
	}
	return k
}

func (k *checker) add(c []int) {
	form, tautology := clause.Norm(c)
	if tautology {
		return
	}
	for _, l := range form {
		k.with[l] = append(k.with[l], len(k.clauses))
	}
	k.clauses = append(k.clauses, form)
	k.gone = append(k.gone, false)
}

// remove removes one clause like c; false if there is none.
func (k *checker) remove(c []int) bool {
	for i, d := range k.clauses {
		if k.gone[i] || !slices.Equal(c, d) {
			continue
		}
		for _, l := range d {
			k.with[l] = slices.DeleteFunc(k.with[l], func(n int) bool { return n == i })
		}
		k.gone[i] = true
		return true
	}
	return false
}

// follows reports whether unit propagation with all literals of c false leads to a conflict.
func (k *checker) follows(c []int) bool {
	k.value = map[int]bool{}
	var queue []int
	conflict := false
	set := func(l int) {
		if k.value[-l] {
			conflict = true
		}
		if !k.value[l] {
			k.value[l] = true
			queue = append(queue, l)
		}
	}
	look := func(d []int) {
		open, unit := 0, 0
		for _, l := range d {
			if k.value[l] {
				return
			}
			if !k.value[-l] {
				open++
				unit = l
			}
		}
		switch open {
		case 0:
			conflict = true
		case 1:
			set(unit)
		}
	}
	for _, l := range c {
		set(-l)
	}
	for i, d := range k.clauses {
		if !k.gone[i] && len(d) <= 1 {
			look(d)
		}
	}
	for len(queue) > 0 && !conflict {
		l := queue[0]
		queue = queue[1:]
		for _, i := range k.with[-l] {
			look(k.clauses[i])
		}
	}
	return conflict
}

// line checks one line, and does what it says.
func (k *checker) line(t *testing.T, i int, l api.Line) {
	t.Helper()
	if form, tautology := clause.Norm(l.Clause); tautology || !slices.Equal(form, l.Clause) {
		t.Fatalf("P3.4: line %d: %v is not in its normal form, or a tautology", i+1, l.Clause)
	}
	switch {
	case l.Delete && !k.remove(l.Clause):
		t.Fatalf("P3.4: line %d deletes %v, which is not there", i+1, l.Clause)
	case !l.Delete && !k.follows(l.Clause):
		t.Fatalf("P3.4: line %d adds %v, which does not follow", i+1, l.Clause)
	case !l.Delete:
		k.add(l.Clause)
	}
}

// checkProof checks the whole proof of a solver, and how it ends after Unsat.
func checkProof(t *testing.T, s *sat.Solver, answer int) {
	t.Helper()
	lines := s.Proof()
	k := newChecker(s.Clauses())
	for i, l := range lines {
		k.line(t, i, l)
	}
	if answer == api.Unsat {
		checkEnd(t, s, lines)
	}
}

// checkEnd checks that the last line adds the clause of the negations of the core.
func checkEnd(t *testing.T, s *sat.Solver, lines []api.Line) {
	t.Helper()
	goal := negations(s.Core())
	if _, opposed := clause.Norm(goal); opposed {
		return
	}
	if len(lines) == 0 || lines[len(lines)-1].Delete || !slices.Equal(lines[len(lines)-1].Clause, goal) {
		t.Fatalf("P3.4: with the core %v the proof ends otherwise", s.Core())
	}
}

// negations returns the normal form of the clause of the negations of literals.
func negations(ls []int) []int {
	out := make([]int, len(ls))
	for i, l := range ls {
		out[i] = -l
	}
	form, _ := clause.Norm(out)
	return form
}
