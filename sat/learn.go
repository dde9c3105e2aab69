package sat

// notes are what a conflict's analysis writes down for itself.
type notes struct {
	mark   []int8 // of each variable: fresh, met, implied or needed
	marked []int  // the variables that are not fresh
	clause []literal
	stamp  []int // of each level: the number of the count in which it was counted last
	count  int
}

// The marks of variables.
const (
	fresh   int8 = iota
	met          // its literal is in the clause, or was replaced in it
	implied      // what is met, and level 0, make its literal false
	needed       // they do not
)

const (
	leastBoost = 1 << 30 // it doubles before activities are halved, so that these are exact enough, and far from their limit
	boostPart  = 50      // after a conflict, boost grows by this part
	maxChain   = 1000    // how long a chain of reasons may be: the stack has limits
)

func newNotes(n int) notes {
	return notes{mark: make([]int8, n+1), stamp: make([]int, n+1)}
}

// learn adds a clause that follows and prevents the conflict, goes back to the first level on which it implies its first literal, and makes that true.
func (s *Solver) learn(conflict place) {
	lits := s.analyze(conflict)
	glue := s.countLevels(lits)
	s.proof.add(lits...)
	if len(lits) == 1 {
		s.retreat(0)
		s.set(lits[0], none)
	} else {
		s.moveDeepest(lits)
		s.retreat(s.level[lits[1].variable()])
		s.set(lits[0], s.attach(lits, glue))
	}
	s.age()
}

// analyze returns a clause that follows from the one that is false and from reasons, whose first literal is its only one of the current level.
func (s *Solver) analyze(conflict place) []literal {
	n := &s.notes
	n.clause = append(n.clause[:0], 0) // the first one is found last
	at := len(s.trail) - 1
	left := s.replace(conflict)
	for {
		for n.mark[s.trail[at].variable()] != met {
			at--
		}
		left--
		if left == 0 {
			break
		}
		left += s.replace(s.reason[s.trail[at].variable()])
		at--
	}
	n.clause[0] = s.trail[at].negation()
	s.shorten()
	n.wipe()
	return n.clause
}

// replace meets a clause; it returns how many literals of the current level are to be replaced by the rest of their reasons, and notes the other ones.
func (s *Solver) replace(c place) int {
	count := 0
	for _, v := range s.meet(c) {
		s.order.Bump(v, s.boost)
		if s.level[v] == s.depth() {
			count++
		} else {
			s.notes.clause = append(s.notes.clause, s.falseOne(v))
		}
	}
	return count
}

// meet marks the variables of a clause that were not met yet, and returns them. Level 0 counts for nothing: it stays.
func (s *Solver) meet(c place) []int {
	from := len(s.notes.marked)
	for _, l := range s.store.lits(c) {
		if v := l.variable(); s.notes.mark[v] == fresh && s.level[v] > 0 {
			s.note(v, met)
		}
	}
	return s.notes.marked[from:]
}

func (s *Solver) note(v int, mark int8) {
	s.notes.mark[v] = mark
	s.notes.marked = append(s.notes.marked, v)
}

// wipe makes all variables fresh again.
func (n *notes) wipe() {
	for _, v := range n.marked {
		n.mark[v] = fresh
	}
	n.marked = n.marked[:0]
}

// falseOne returns the literal of a variable that is false.
func (s *Solver) falseOne(v int) literal {
	p := inward(v)
	if s.value[p] == isTrue {
		return p.negation()
	}
	return p
}

// shorten drops the literals which the others make false.
func (s *Solver) shorten() {
	n := &s.notes
	s.countLevels(n.clause) // stamps them
	kept := n.clause[:1]
	for _, l := range n.clause[1:] {
		if s.reason[l.variable()] == none || !s.reasonHolds(l.variable(), 0) {
			kept = append(kept, l)
		}
	}
	n.clause = kept
}

// reasonHolds reports whether the other literals of a variable's reason are false because of what is met.
func (s *Solver) reasonHolds(v int, chain int) bool {
	for _, l := range s.store.lits(s.reason[v]) {
		if w := l.variable(); w != v && !s.follows(w, chain) {
			return false
		}
	}
	return true
}

// follows reports whether a variable has its value because of what is met, by a chain of reasons. (Its level must have a literal in the clause, as each chain ends in decisions.)
func (s *Solver) follows(v int, chain int) bool {
	n := &s.notes
	switch {
	case s.level[v] == 0 || n.mark[v] == met || n.mark[v] == implied:
		return true
	case n.mark[v] == needed || s.reason[v] == none || n.stamp[s.level[v]] != n.count || chain >= maxChain:
		return false
	case s.reasonHolds(v, chain+1):
		s.note(v, implied)
		return true
	default:
		s.note(v, needed)
		return false
	}
}

// countLevels returns how many levels the literals have, and stamps these.
func (s *Solver) countLevels(lits []literal) int {
	n := &s.notes
	n.count++
	levels := 0
	for _, l := range lits {
		if at := s.level[l.variable()]; n.stamp[at] != n.count {
			n.stamp[at] = n.count
			levels++
		}
	}
	return levels
}

// moveDeepest makes one of the literals with the greatest level, except the first one, the second one.
func (s *Solver) moveDeepest(lits []literal) {
	for i := 2; i < len(lits); i++ {
		if s.level[lits[i].variable()] > s.level[lits[1].variable()] {
			lits[1], lits[i] = lits[i], lits[1]
		}
	}
}

// age makes what was active earlier count less, compared with what will be.
func (s *Solver) age() {
	s.boost += s.boost / boostPart
	if s.boost >= 2*leastBoost {
		s.boost /= 2
		s.order.Halve()
	}
}
