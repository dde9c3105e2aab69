package sat

import (
	"cmp"
	"slices"
)

const (
	firstRoom = 1000 // learned clauses
	moreRoom  = 500  // for them, each time
	goodGlue  = 2    // learned clauses with no more are kept
)

// tidy deletes the less useful half of the learned clauses, and all clauses that hold on level 0, which is the current one.
func (s *Solver) tidy() {
	s.writeUnits()
	s.doom()
	s.rebuild()
	s.room = max(s.room, len(s.learned)) + moreRoom
}

// writeUnits adds to the proof what learned clauses imply on level 0: it follows from the other clauses alone then, and none of them is needed for it.
func (s *Solver) writeUnits() {
	for _, p := range s.trail {
		c := s.reason[p.variable()]
		if c != none && s.store.glue(c) != given {
			s.proof.add(p)
		}
		s.reason[p.variable()] = none
	}
}

// doom makes the glue of the learned clauses that are to be deleted negative.
func (s *Solver) doom() {
	rest := slices.DeleteFunc(slices.Clone(s.learned), func(c place) bool { return s.store.glue(c) <= goodGlue })
	slices.SortFunc(rest, func(a, b place) int {
		return cmp.Or(
			cmp.Compare(s.store.glue(b), s.store.glue(a)),
			cmp.Compare(len(s.store.lits(b)), len(s.store.lits(a))),
			cmp.Compare(a, b), // the older one
		)
	})
	for _, c := range rest[:len(rest)/2] {
		s.store.setGlue(c, -s.store.glue(c))
	}
}

// rebuild stores the clauses that stay anew, with the same watches.
func (s *Solver) rebuild() {
	old := s.store
	s.store = store{}
	s.learned = s.learned[:0]
	for l := range s.watches {
		s.pairs[l] = s.pairs[l][:0]
		s.watches[l] = s.watches[l][:0]
	}
	old.each(func(c place) {
		lits, glue := old.lits(c), old.glue(c)
		switch {
		case glue >= given && !slices.ContainsFunc(lits, func(l literal) bool { return s.value[l] == isTrue }):
			s.attach(lits, glue)
		case glue != given:
			s.proof.remove(lits...)
		}
	})
}
