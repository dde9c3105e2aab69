package rup_test

import (
	"slices"
	"testing"

	"weirgate/api"
	"weirgate/clause"
	"weirgate/rup"
)

// dice returns a function whose results depend on the seed alone.
func dice(seed uint64) func(n int) int {
	return func(n int) int {
		seed = seed*6364136223846793005 + 1442695040888963407
		return int(seed>>33) % n
	}
}

// wrong reports whether one of the clauses has a number that is not a literal.
func wrong(cs ...[]int) bool {
	return slices.ContainsFunc(cs, func(c []int) bool {
		return slices.ContainsFunc(c, func(l int) bool { return l == 0 || l > api.MaxVar || l < -api.MaxVar })
	})
}

func opposed(c []int) bool {
	return slices.ContainsFunc(c, func(l int) bool { return slices.Contains(c, -l) })
}

// plainFollows goes through all clauses again and again, as the document says it: slow, and plain.
func plainFollows(cs [][]int, c []int) bool {
	if wrong(cs...) || wrong(c) {
		return false
	}
	if opposed(c) {
		return true
	}
	isTrue := map[int]bool{}
	for _, l := range c {
		isTrue[-l] = true
	}
	for again := true; again; {
		again = false
		for _, d := range cs {
			open := map[int]bool{}
			holds := false
			for _, l := range d {
				holds = holds || isTrue[l]
				if !isTrue[l] && !isTrue[-l] {
					open[l] = true
				}
			}
			switch {
			case holds:
			case len(open) == 0:
				return true
			case len(open) == 1:
				for l := range open {
					isTrue[l] = true
				}
				again = true
			}
		}
	}
	return false
}

// same reports whether two clauses have the same literals.
func same(a, b []int) bool {
	in := func(x, y []int) bool {
		return !slices.ContainsFunc(x, func(l int) bool { return !slices.Contains(y, l) })
	}
	return in(a, b) && in(b, a)
}

// plainCheck keeps a list of the clauses that are present.
func plainCheck(cs [][]int, proof []api.Line, goal []int) int {
	if wrong(cs...) || wrong(goal) {
		return -1
	}
	now := slices.Clone(cs)
	for i, l := range proof {
		at := slices.IndexFunc(now, func(c []int) bool { return same(c, l.Clause) })
		switch {
		case wrong(l.Clause), l.Delete && at < 0, !l.Delete && !plainFollows(now, l.Clause):
			return i + 1
		case l.Delete:
			now = slices.Delete(now, at, at+1)
		default:
			now = append(now, l.Clause)
		}
	}
	if !plainFollows(now, goal) {
		return len(proof) + 1
	}
	return 0
}

// some returns a clause of up to most literals of variables, which may repeat or be opposed.
func some(roll func(int) int, vars []int, most int) []int {
	var c []int
	for range roll(most + 1) {
		l := vars[roll(len(vars))]
		if roll(2) == 0 {
			l = -l
		}
		c = append(c, l)
	}
	return c
}

func many(roll func(int) int, vars []int, count, most int) [][]int {
	cs := make([][]int, count)
	for i := range cs {
		cs[i] = append(some(roll, vars, most-1), vars[roll(len(vars))]*(1-2*roll(2)))
		if roll(60) == 0 {
			cs[i] = nil
		}
	}
	return cs
}

// variables returns count different variables, which are near each other, or not.
func variables(roll func(int) int, count int) []int {
	first, gap := 1+roll(3), 1
	if roll(4) == 0 {
		gap = 1 << (4 * (1 + roll(3))) // 16, 256, 4096
	}
	var vars []int
	for i := range count {
		vars = append(vars, first+i*gap)
	}
	return vars
}

// shuffled returns the literals of a clause in another order, some of them twice.
func shuffled(roll func(int) int, c []int) []int {
	out := slices.Clone(c)
	for i := range out {
		j := roll(len(out))
		out[i], out[j] = out[j], out[i]
	}
	if len(out) > 0 && roll(3) == 0 {
		out = append(out, out[roll(len(out))])
	}
	return out
}

func TestFollowsAsPlain(t *testing.T) {
	roll := dice(1)
	count := map[bool]int{}
	for range 20000 {
		vars := variables(roll, 1+roll(12))
		cs := many(roll, vars, roll(4*len(vars)), 1+roll(5))
		c := some(roll, vars, 4)
		want := plainFollows(cs, c)
		count[want]++
		if got := rup.Follows(cs, c); got != want {
			t.Fatalf("P4.1: Follows(%v, %v): %v", cs, c, got)
		}
	}
	if count[true] < 5000 || count[false] < 5000 {
		t.Errorf("answers: %v", count)
	}
}

// writer writes a proof whose lines are correct as long as it has luck, which it seldom needs.
type writer struct {
	roll  func(int) int
	vars  []int
	now   [][]int
	lines []api.Line
}

func (w *writer) line() {
	if len(w.now) > 0 && w.roll(5) < 2 {
		at := w.roll(len(w.now))
		w.lines = append(w.lines, api.Line{Delete: true, Clause: shuffled(w.roll, w.now[at])})
		w.now = slices.Delete(w.now, at, at+1)
		return
	}
	c := some(w.roll, w.vars, 4)
	for range 15 {
		if plainFollows(w.now, c) && !(opposed(c) && w.roll(5) > 0) {
			break
		}
		c = some(w.roll, w.vars, 4)
	}
	if !plainFollows(w.now, c) && w.roll(20) > 0 {
		return
	}
	if w.roll(30) == 0 {
		w.lines = append(w.lines, api.Line{Delete: w.roll(2) == 0, Clause: some(w.roll, append(w.vars, 0), 4)})
	}
	w.lines = append(w.lines, api.Line{Clause: c})
	w.now = append(w.now, c)
}

func TestCheckAsPlain(t *testing.T) {
	roll := dice(2)
	wholes, ends, breaks := 0, 0, 0
	for range 15000 {
		vars := variables(roll, 1+roll(8))
		cs := many(roll, vars, roll(4*len(vars)), 1+roll(4))
		if roll(3) == 0 { // little is implied before the first line
			long := func(c []int) bool { return len(c) > 1 || len(c) == 1 && roll(4) == 0 }
			cs = slices.DeleteFunc(many(roll, vars, 5*len(vars), 4), func(c []int) bool { return !long(c) })
		}
		w := writer{roll, vars, slices.Clone(cs), nil}
		for range roll(25) {
			w.line()
		}
		goal := some(roll, vars, 3)
		want := plainCheck(cs, w.lines, goal)
		switch {
		case want == 0:
			wholes++
		case want > len(w.lines):
			ends++
		default:
			breaks++
		}
		if got := rup.Check(cs, w.lines, goal); got != want {
			t.Fatalf("P4.2: Check(%v, %v, %v): %d instead of %d", cs, w.lines, goal, got, want)
		}
	}
	if wholes < 2000 || ends < 2000 || breaks < 2000 {
		t.Errorf("proofs: %d are correct, %d not in the end, %d not before", wholes, ends, breaks)
	}
}

// TestRightMeansTrue: what a correct proof shows holds in all models.
func TestRightMeansTrue(t *testing.T) {
	roll := dice(3)
	shown := 0
	for range 4000 {
		vars := []int{1, 2, 3, 4, 5}
		cs := many(roll, vars, 3+roll(15), 3)
		w := writer{roll, vars, slices.Clone(cs), nil}
		for range roll(12) {
			w.line()
		}
		goal := some(roll, vars, 2)
		if rup.Check(cs, w.lines, goal) != 0 {
			continue
		}
		shown++
		for n := range 1 << len(vars) {
			m := make([]bool, len(vars))
			for v := range m {
				m[v] = n>>v&1 == 1
			}
			if clause.All(cs, m) && !clause.Holds(goal, m) {
				t.Fatalf("P4.4: %v with %v shows %v, but %v", cs, w.lines, goal, m)
			}
		}
	}
	if shown < 500 {
		t.Errorf("only %d were shown", shown)
	}
}

func TestModelAsPlain(t *testing.T) {
	roll := dice(4)
	count := map[bool]int{}
	for range 5000 {
		vars := []int{1, 2, 3, 4, 5}
		cs := many(roll, vars, roll(6), 4)
		assume := some(roll, vars, 2)
		m := make([]bool, roll(7))
		for i := range m {
			m[i] = roll(2) == 0
		}
		isTrue := func(l int) bool { return (max(l, -l) <= len(m) && m[max(l, -l)-1]) == (l > 0) }
		want := true
		for _, c := range cs {
			want = want && slices.ContainsFunc(c, isTrue)
		}
		for _, l := range assume {
			want = want && isTrue(l)
		}
		count[want]++
		if got := rup.Model(cs, m, assume...); got != want {
			t.Fatalf("P4.3: Model(%v, %v, %v): %v", cs, m, assume, got)
		}
	}
	if count[true] < 500 || count[false] < 500 {
		t.Errorf("answers: %v", count)
	}
}
