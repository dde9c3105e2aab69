package sat

// watch is a clause that watches a literal, and another literal of it: as long as that is true, the clause need not be looked at.
type watch struct {
	at    place
	other literal
}

// attach stores a clause of two or more literals, which watches its first two. Neither is false, unless the clause implies the first one now, and the second one is among those that became false last.
func (s *Solver) attach(lits []literal, glue int) place {
	c := s.store.put(lits, glue)
	lists := s.watches
	if len(lits) == 2 {
		lists = s.pairs
	}
	lists[lits[0]] = append(lists[lits[0]], watch{c, lits[1]})
	lists[lits[1]] = append(lists[lits[1]], watch{c, lits[0]})
	if glue != given {
		s.learned = append(s.learned, c)
	}
	return c
}

// set makes an open literal true, on the current level.
func (s *Solver) set(p literal, reason place) {
	v := p.variable()
	s.value[p] = isTrue
	s.value[p.negation()] = isFalse
	s.level[v] = s.depth()
	s.reason[v] = reason
	s.trail = append(s.trail, p)
}

// depth returns the current level: how many decisions and assumptions there are.
func (s *Solver) depth() int {
	return len(s.limits)
}

// deepen begins a level.
func (s *Solver) deepen() {
	s.limits = append(s.limits, len(s.trail))
}

// retreat ends all levels beyond a level; what was true there is open again.
func (s *Solver) retreat(level int) {
	if s.depth() <= level {
		return
	}
	from := s.limits[level]
	for _, p := range s.trail[from:] {
		v := p.variable()
		s.value[p] = open
		s.value[p.negation()] = open
		s.last[v] = p
		s.order.Put(v)
	}
	s.trail = s.trail[:from]
	s.limits = s.limits[:level]
	s.done = from
}

// follow makes true what is implied, until there is nothing more, or a clause is false: then it returns that.
func (s *Solver) follow() place {
	for s.done < len(s.trail) {
		l := s.trail[s.done].negation()
		s.done++
		c := s.followPairs(l)
		if c == none {
			c = s.followLong(l)
		}
		if c != none {
			return c
		}
	}
	return none
}

// followPairs looks at the clauses of two literals that watch l, which has become false.
func (s *Solver) followPairs(l literal) place {
	for _, w := range s.pairs[l] {
		switch s.value[w.other] {
		case open:
			s.set(w.other, w.at)
		case isFalse:
			return w.at
		}
	}
	return none
}

// followLong looks at the longer clauses that watch l, which has become false: each one watches another literal from now on, or the clause holds, is false, or implies its first literal.
func (s *Solver) followLong(l literal) place {
	list := s.watches[l]
	kept := list[:0]
	for i, w := range list {
		if s.value[w.other] == isTrue {
			kept = append(kept, w)
			continue
		}
		lits := s.store.lits(w.at)
		if lits[0] == l {
			lits[0], lits[1] = lits[1], l
		}
		first := lits[0]
		w.other = first
		if s.value[first] != isTrue && s.watchAnother(w, lits) {
			continue
		}
		kept = append(kept, w)
		switch s.value[first] {
		case open:
			s.set(first, w.at)
		case isFalse:
			s.watches[l] = append(kept, list[i+1:]...)
			return w.at
		}
	}
	s.watches[l] = kept
	return none
}

// watchAnother exchanges the second literal, which is false, for a later one that is not; false if all of them are.
func (s *Solver) watchAnother(w watch, lits []literal) bool {
	for i := 2; i < len(lits); i++ {
		if l := lits[i]; s.value[l] != isFalse {
			lits[1], lits[i] = l, lits[1]
			s.watches[l] = append(s.watches[l], w)
			return true
		}
	}
	return false
}
