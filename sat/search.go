package sat

import (
	"math/bits"

	"weirgate/api"
	"weirgate/clause"
)

const restartUnit = 64 // conflicts

// Solve looks for a model in which the assumptions are true, with at most as many conflicts as the budget (a negative one means no limit).
func (s *Solver) Solve(budget int, assume ...int) int {
	if s == nil {
		return api.Unknown
	}
	s.forget()
	if s.foreign(assume) {
		return api.Unknown
	}
	answer := s.search(budget, once(assume))
	switch answer {
	case api.Sat:
		s.model = s.values()
	case api.Unsat:
		s.conclude()
	}
	s.retreat(0)
	return answer
}

// once returns each of the literals once, in the order in which they occur first.
func once(ls []int) []literal {
	seen := map[int]struct{}{}
	var lits []literal
	for _, l := range ls {
		if _, ok := seen[l]; !ok {
			seen[l] = struct{}{}
			lits = append(lits, inward(l))
		}
	}
	return lits
}

// search decides, follows and learns until there is an answer.
func (s *Solver) search(budget int, assume []literal) int {
	if s.hopeless {
		return api.Unsat
	}
	run, left := 1, restartUnit
	for {
		c := s.follow()
		switch {
		case c != none && s.depth() == 0:
			s.hopeless = true
			return api.Unsat
		case c != none && budget == 0:
			return api.Unknown
		case c != none:
			if budget > 0 {
				budget--
			}
			left--
			s.conflicts++
			s.learn(c)
		case left <= 0:
			s.retreat(0)
			run++
			left = restartUnit * luby(run)
		case s.depth() == 0 && len(s.learned) >= s.room:
			s.tidy()
		default:
			if answer := s.advance(assume); answer != api.Unknown {
				return answer
			}
		}
	}
}

// luby returns the element i, from 1 on, of 1 1 2 1 1 2 4 1 1 2 1 1 2 4 8 ..: with restarts after as many conflicts, no bad beginning costs much, and no good one is given up for ever.
func luby(i int) int {
	for {
		size := bits.Len(uint(i))
		if i == 1<<size-1 {
			return 1 << (size - 1)
		}
		i -= 1<<(size-1) - 1
	}
}

// advance makes the next assumption or decision, and returns Unknown; Unsat if an assumption is false already, Sat if there is nothing left to decide.
func (s *Solver) advance(assume []literal) int {
	for s.depth() < len(assume) {
		p := assume[s.depth()]
		switch s.value[p] {
		case isTrue:
			s.deepen() // each assumption has its level, though nothing happens on this one
		case isFalse:
			s.core = s.explain(p)
			return api.Unsat
		default:
			s.deepen()
			s.set(p, none)
			return api.Unknown
		}
	}
	for {
		v, ok := s.order.Next()
		if !ok {
			return api.Sat
		}
		if p := s.last[v]; s.value[p] == open {
			s.deepen()
			s.set(p, none)
			return api.Unknown
		}
	}
}

// explain returns an assumption that is false, and those that make it so. (There are no decisions yet, thus what has no reason is an assumption.)
func (s *Solver) explain(p literal) []int {
	core := []int{p.outward()}
	if s.level[p.variable()] == 0 {
		return core
	}
	s.note(p.variable(), met)
	for at := len(s.trail) - 1; at >= s.limits[0]; at-- {
		q := s.trail[at]
		c := s.reason[q.variable()]
		switch {
		case s.notes.mark[q.variable()] != met:
		case c == none:
			core = append(core, q.outward())
		default:
			s.meet(c)
		}
	}
	s.notes.wipe()
	return core
}

// conclude writes the proof's last line, for the core that was found.
func (s *Solver) conclude() {
	core, opposed := clause.Norm(s.core)
	s.core = core
	if opposed {
		return
	}
	var lits []literal
	for _, l := range core {
		lits = append(lits, inward(-l))
	}
	s.proof.add(lits...)
}

// values returns what the variables are, when all have a value.
func (s *Solver) values() []bool {
	model := make([]bool, s.vars)
	for i := range model {
		model[i] = s.value[inward(i+1)] == isTrue
	}
	return model
}
