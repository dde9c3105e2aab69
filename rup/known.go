package rup

import "slices"

// literal is twice the number of a variable, plus one for its negation, so that tables by literals are short, whatever the variables are.
type literal int32

func (l literal) negation() literal {
	return l ^ 1
}

// place is where a clause is among those that were known.
type place int32

const none place = 0

// The values of literals.
const (
	isFalse int8 = iota - 1
	undetermined
	isTrue
)

// known has clauses that are no tautologies, and what unit propagation of them alone makes true.
type known struct {
	numbers map[int]int // of the variables that occurred, from 0 on
	clauses []stored    // the one at none is not used
	short   []place     // those with at most one literal
	watches [][]watch   // by a literal: the longer ones that watch it

	value   []int8    // by a literal
	reason  []place   // by a literal: if it is true, the clause that implied it, or none
	trail   []literal // those that are true, in the order in which they became so
	done    int       // how many of them were followed
	settled bool      // the trail is what the clauses imply, or as much of it as leads to a conflict
	broken  place     // then: a clause whose literals are all false, or none
}

// stored is a clause: one that is not short watches its first two literals, so that it need not be looked at before one of these is false.
type stored struct {
	lits    []literal
	removed bool
}

// watch is a clause that watches a literal, and another literal of it: as long as that is true, the clause implies nothing.
type watch struct {
	at    place
	other literal
}

func newKnown() *known {
	return &known{numbers: map[int]int{}, clauses: make([]stored, 1)}
}

// number returns the literal that stands for l.
func (k *known) number(l int) literal {
	v := max(l, -l)
	n, ok := k.numbers[v]
	if !ok {
		n = len(k.numbers)
		k.numbers[v] = n
		k.watches = append(k.watches, nil, nil)
		k.value = append(k.value, undetermined, undetermined)
		k.reason = append(k.reason, none, none)
	}
	if l < 0 {
		return literal(2 * n).negation()
	}
	return literal(2 * n)
}

// add adds a clause in its normal form.
func (k *known) add(form []int) place {
	lits := make([]literal, len(form))
	for i, l := range form {
		lits[i] = k.number(l)
	}
	k.lead(lits)
	at := place(len(k.clauses))
	k.clauses = append(k.clauses, stored{lits: lits})
	if len(lits) < 2 {
		k.short = append(k.short, at)
	} else {
		k.watch(lits[0], watch{at, lits[1]})
		k.watch(lits[1], watch{at, lits[0]})
	}
	if k.settled && k.broken == none {
		k.apply(at)
		k.finish()
	}
	return at
}

// remove removes a clause. If it was needed for the trail, all of that is in doubt.
func (k *known) remove(at place) {
	needed := func(l literal) bool { return k.reason[l] == at }
	if k.broken == at || slices.ContainsFunc(k.clauses[at].lits, needed) {
		k.settled = false
	}
	k.clauses[at] = stored{removed: true}
}

// implies reports whether unit propagation with all literals of a clause false leads to a conflict. (For a tautology it always does.)
func (k *known) implies(c []int) bool {
	k.settle()
	if k.broken != none {
		return true
	}
	from := len(k.trail)
	conflict := k.deny(c) || k.propagate() != none
	k.retreat(from)
	return conflict
}

// deny makes all literals of a clause false; it reports whether one of them is true.
func (k *known) deny(c []int) bool {
	for _, n := range c {
		l := k.number(n)
		switch k.value[l] {
		case isTrue:
			return true
		case undetermined:
			k.set(l.negation(), none)
		}
	}
	return false
}

// settle makes true, from the start, what the clauses alone imply, unless that is so.
func (k *known) settle() {
	if k.settled {
		return
	}
	k.settled = true
	k.retreat(0)
	k.broken = none
	k.short = slices.DeleteFunc(k.short, func(at place) bool { return k.clauses[at].removed })
	for _, at := range k.short {
		k.apply(at)
	}
	k.finish()
}

// finish makes true what is implied by what the clauses made true, unless there is a conflict.
func (k *known) finish() {
	if k.broken == none {
		k.broken = k.propagate()
	}
}

// apply does what a clause demands whose first literals are those that are not false.
func (k *known) apply(at place) {
	lits := k.clauses[at].lits
	switch {
	case len(lits) == 0 || k.value[lits[0]] == isFalse:
		k.broken = at
	case len(lits) > 1 && k.value[lits[1]] != isFalse:
		// there is a choice
	case k.value[lits[0]] == undetermined:
		k.set(lits[0], at)
	case len(lits) == 1:
		k.reason[lits[0]] = at // it stands alone, and proofs add such clauses before they delete the old reasons
	}
}

// lead moves up to two literals that are not false to the beginning of a clause.
func (k *known) lead(lits []literal) {
	found := 0
	for i, l := range lits {
		if found < 2 && k.value[l] != isFalse {
			lits[i], lits[found] = lits[found], l
			found++
		}
	}
}

func (k *known) watch(l literal, w watch) {
	k.watches[l] = append(k.watches[l], w)
}

// set makes an undetermined literal true.
func (k *known) set(l literal, reason place) {
	k.value[l] = isTrue
	k.value[l.negation()] = isFalse
	k.reason[l] = reason
	k.trail = append(k.trail, l)
}

// retreat keeps the first literals of the trail, as many as from, which must have been followed; the others are undetermined again.
func (k *known) retreat(from int) {
	for _, l := range k.trail[from:] {
		k.value[l] = undetermined
		k.value[l.negation()] = undetermined
		k.reason[l] = none
	}
	k.trail = k.trail[:from]
	k.done = from
}

// propagate makes true what is implied, until there is nothing more, or all literals of a clause are false: it returns that, or none.
func (k *known) propagate() place {
	for k.done < len(k.trail) {
		l := k.trail[k.done]
		k.done++
		if at := k.follow(l.negation()); at != none {
			return at
		}
	}
	return none
}

// follow looks at the clauses that watch l, which has become false; it returns one whose literals are all false, or none.
func (k *known) follow(l literal) place {
	list := k.watches[l]
	broken := none
	next, kept := 0, 0
	for broken == none && next < len(list) {
		w := list[next]
		next++
		if k.value[w.other] != isTrue {
			if k.release(w.at, l) {
				continue
			}
			w.other = k.clauses[w.at].lits[0]
			broken = k.demand(w)
		}
		list[kept] = w
		kept++
	}
	k.watches[l] = append(list[:kept], list[next:]...)
	return broken
}

// release reports whether a clause need not watch l, which is false, any more, since it was removed, or now watches a third literal. Otherwise its first literal is the other one that it watches, and is true, or all others are false.
func (k *known) release(at place, l literal) bool {
	c := k.clauses[at]
	if c.removed {
		return true
	}
	if c.lits[0] == l {
		c.lits[0], c.lits[1] = c.lits[1], l
	}
	if k.value[c.lits[0]] == isTrue {
		return false
	}
	for i := 2; i < len(c.lits); i++ {
		if m := c.lits[i]; k.value[m] != isFalse {
			c.lits[1], c.lits[i] = m, l
			k.watch(m, watch{at, c.lits[0]})
			return true
		}
	}
	return false
}

// demand makes the other literal of a watch true, unless it is; if that is false, it returns the clause, otherwise none.
func (k *known) demand(w watch) place {
	switch k.value[w.other] {
	case undetermined:
		k.set(w.other, w.at)
	case isFalse:
		return w.at
	}
	return none
}
