package rup_test

import (
	"slices"
	"testing"

	"weirgate/api"
	"weirgate/rup"
	"weirgate/sat"
)

// solved returns a solver with clauses of variables up to n.
func solved(t *testing.T, n int, cs [][]int) *sat.Solver {
	t.Helper()
	s, e := sat.New(n)
	if e != api.OK {
		t.Fatal(e)
	}
	for _, c := range cs {
		if e := s.Add(c); e != api.OK {
			t.Fatal(e)
		}
	}
	return s
}

// negations returns the clause of the negations of literals.
func negations(ls []int) []int {
	var c []int
	for _, l := range ls {
		c = append(c, -l)
	}
	return c
}

// pigeons returns the clauses which say that each of some pigeons is in a hole, and no two in the same one, and how many variables they have.
func pigeons(count, holes int) (int, [][]int) {
	in := func(p, h int) int { return p*holes + h + 1 }
	var cs [][]int
	for p := range count {
		var c []int
		for h := range holes {
			c = append(c, in(p, h))
			for q := range p {
				cs = append(cs, []int{-in(p, h), -in(q, h)})
			}
		}
		cs = append(cs, c)
	}
	return count * holes, cs
}

// TestProofsOfTheSolver: each of its answers has a certificate.
func TestProofsOfTheSolver(t *testing.T) {
	roll := dice(5)
	count := map[int]int{}
	for range 400 {
		n := 10 + roll(40)
		vars := make([]int, n)
		for i := range vars {
			vars[i] = i + 1
		}
		cs := slices.DeleteFunc(many(roll, vars, 8*n+roll(2*n), 4), func(c []int) bool { return len(c) < 3 })
		s := solved(t, n, cs)
		for range 3 {
			assume := some(roll, vars, 3)
			answer := s.Solve(-1, assume...)
			count[answer]++
			switch answer {
			case api.Sat:
				if !rup.Model(s.Clauses(), s.Model(), assume...) {
					t.Fatalf("P4.3: %v is a model of %v", s.Model(), s.Clauses())
				}
			case api.Unsat:
				if got := rup.Check(s.Clauses(), s.Proof(), negations(s.Core())); got != 0 {
					t.Fatalf("P4.2: %v with the core %v: %d", s.Clauses(), s.Core(), got)
				}
			}
		}
	}
	if count[api.Sat] < 100 || count[api.Unsat] < 100 {
		t.Errorf("answers: %v", count)
	}
}

// TestLongProof: thousands of lines, of which many delete.
func TestLongProof(t *testing.T) {
	n, cs := pigeons(8, 7)
	s := solved(t, n, cs)
	if s.Solve(-1) != api.Unsat {
		t.Fatal("the pigeons have holes")
	}
	proof := s.Proof()
	if !slices.ContainsFunc(proof, func(l api.Line) bool { return l.Delete }) {
		t.Fatal("nothing is deleted")
	}
	if got := rup.Check(cs, proof, nil); got != 0 {
		t.Errorf("P4.2: %d of %d lines", got, len(proof))
	}
	if got := rup.Check(cs[1:], proof, nil); got <= 0 || got > len(proof)+1 {
		t.Errorf("P4.2: without a clause that is needed: %d of %d lines", got, len(proof))
	}
	for at := 0; at < len(proof); at += 1 + len(proof)/7 {
		other := slices.Insert(slices.Clone(proof), at, del(1, -2, 3))
		if got := rup.Check(cs, other, nil); got != at+1 {
			t.Errorf("P4.2: line %d deletes what is not there: %d", at+1, got)
		}
	}
}

// TestChain: the greatest variables, each implied by the one before it.
func TestChain(t *testing.T) {
	var cs [][]int
	for v := 1; v < api.MaxVar; v++ {
		cs = append(cs, []int{v + 1, -v})
	}
	if !rup.Follows(cs, []int{-1, api.MaxVar}) || rup.Follows(cs, []int{-2, 1}) || rup.Follows(cs, []int{api.MaxVar}) {
		t.Error("P4.1: the chain")
	}
	cs = append(cs, []int{1})
	middle := api.MaxVar / 2
	cut := del(-middle, middle+1)
	for _, x := range []struct {
		proof []api.Line
		goal  int
		want  int
	}{
		{nil, api.MaxVar, 0},
		{[]api.Line{cut}, middle, 0},
		{[]api.Line{cut}, middle + 1, 2},
		{[]api.Line{add(middle + 1), cut}, api.MaxVar, 0},
		{[]api.Line{add(middle + 1), cut, del(middle + 1)}, api.MaxVar, 4},
		{[]api.Line{add(middle + 1), del(1)}, api.MaxVar, 0},
		{[]api.Line{add(middle + 1), del(1)}, middle, 3},
	} {
		if got := rup.Check(cs, x.proof, []int{x.goal}); got != x.want {
			t.Errorf("P4.2: the chain with %v, %d: %d", x.proof, x.goal, got)
		}
	}
}

// TestWide: a clause of all variables, and a proof that makes it narrower, literal by literal.
func TestWide(t *testing.T) {
	const n = 2000
	cs := [][]int{{}}
	for v := 1; v <= n; v++ {
		cs[0] = append(cs[0], v)
		cs = append(cs, []int{-v})
	}
	var proof []api.Line
	for v := n; v > 0; v-- {
		proof = append(proof, add(cs[0][:v-1]...), del(cs[0][:v]...))
	}
	if got := rup.Check(cs, proof, nil); got != 0 {
		t.Errorf("P4.2: narrower and narrower: %d", got)
	}
	proof = append(proof, del())
	if got := rup.Check(cs, proof, nil); got != len(proof)+1 {
		t.Errorf("P4.2: and then deleted: %d of %d", got, len(proof))
	}
	if !rup.Follows(cs, []int{n + 1}) || rup.Follows(cs[1:], []int{n + 1}) || rup.Follows(cs[:n], []int{-n - 1, 5000}) {
		t.Error("P4.1: the wide clause")
	}
}

// TestManyDeletions: clauses that are there many times are deleted as often.
func TestManyDeletions(t *testing.T) {
	const times = 30000
	cs := slices.Repeat([][]int{{1, 2}, {-1}, {2, 1, 2}}, times)
	proof := slices.Repeat([]api.Line{del(2, 1), del(1, 2)}, times)
	if got := rup.Check(cs, proof[1:], []int{2}); got != 0 {
		t.Errorf("P4.2: one is left: %d", got)
	}
	if got := rup.Check(cs, proof, []int{2}); got != len(proof)+1 {
		t.Errorf("P4.2: none is left: %d", got)
	}
	if got := rup.Check(cs, append(proof, del(2, 1)), []int{2}); got != len(proof)+1 {
		t.Errorf("P4.2: one too many: %d", got)
	}
}

// spare returns a copy of c with spare capacity, and a function that reports whether nothing in it has changed.
func spare(c []int) ([]int, func() bool) {
	whole := append(slices.Clone(c), 5, -5, 6)
	was := slices.Clone(whole)
	return whole[:len(c)], func() bool { return slices.Equal(whole, was) }
}

func TestArgumentsStayAsTheyAre(t *testing.T) {
	roll := dice(6)
	vars := []int{1, 2, 3, 4}
	for range 500 {
		var sames []func() bool
		own := func(c []int) []int {
			c, same := spare(c)
			sames = append(sames, same)
			return c
		}
		cs := many(roll, vars, roll(8), 4)
		w := writer{roll, vars, slices.Clone(cs), nil}
		for range roll(8) {
			w.line()
		}
		for i := range cs {
			cs[i] = own(cs[i])
		}
		for i, l := range w.lines {
			w.lines[i].Clause = own(l.Clause)
		}
		list := append(slices.Clone(cs), []int{9}, []int{8})
		lines := append(slices.Clone(w.lines), add(9), del(8))
		goal, assume := own(some(roll, vars, 3)), own(some(roll, vars, 2))
		model := []bool{true, false, true, true}
		rup.Follows(list[:len(cs)], goal)
		rup.Check(list[:len(cs)], lines[:len(w.lines)], goal)
		rup.Model(list[:len(cs)], model[:2], assume...)
		if slices.ContainsFunc(sames, func(same func() bool) bool { return !same() }) {
			t.Fatalf("P4.4: a clause was changed: %v, %v, %v, %v", cs, w.lines, goal, assume)
		}
		restSame := list[len(cs)][0] == 9 && list[len(cs)+1][0] == 8 && lines[len(w.lines)].Clause[0] == 9 && lines[len(w.lines)+1].Delete
		if !restSame || !slices.Equal(model, []bool{true, false, true, true}) {
			t.Fatalf("P4.4: a list was changed: %v, %v, %v", list, lines, model)
		}
		for i, c := range cs {
			if len(list[i]) != len(c) || len(c) > 0 && &list[i][0] != &c[0] {
				t.Fatalf("P4.4: clause %d was exchanged", i)
			}
		}
	}
}

// TestSameAgain: an answer depends on the arguments alone.
func TestSameAgain(t *testing.T) {
	n, cs := pigeons(6, 5)
	s := solved(t, n, cs)
	s.Solve(-1)
	proof := s.Proof()
	short := proof[:len(proof)/2]
	for range 3 {
		if rup.Check(cs, proof, nil) != 0 || rup.Check(cs, short, nil) != len(short)+1 || rup.Follows(cs, nil) {
			t.Fatal("P4.4: another answer")
		}
	}
}
