// Package clause handles literals, clauses, and their text format: see shared/doc/01-clause.md.
package clause

import (
	"slices"

	"weirgate/api"
)

// Right reports whether c consists only of literals.
func Right(c []int) bool {
	return !slices.ContainsFunc(c, func(l int) bool { return !literal(l) })
}

// Norm returns the normal form of c, and whether it is a tautology; none and false if c is not valid.
func Norm(c []int) ([]int, bool) {
	if !Right(c) {
		return nil, false
	}
	own := slices.Clone(c)
	slices.SortFunc(own, func(a, b int) int { return rank(a) - rank(b) })
	own = slices.Compact(own)
	return own, opposed(own)
}

// Holds reports whether a literal of c is true in the model.
func Holds(c []int, model []bool) bool {
	return slices.ContainsFunc(c, func(l int) bool {
		if !literal(l) {
			return false
		}
		v := variable(l)
		value := v <= len(model) && model[v-1]
		return value == (l > 0)
	})
}

// All reports whether all clauses hold in the model.
func All(cs [][]int, model []bool) bool {
	return !slices.ContainsFunc(cs, func(c []int) bool { return !Holds(c, model) })
}

// Greatest returns the greatest variable of the literals, 0 if there are none.
func Greatest(cs [][]int) int {
	most := 0
	for _, c := range cs {
		for _, l := range c {
			if literal(l) {
				most = max(most, variable(l))
			}
		}
	}
	return most
}

// literal reports whether l stands for a variable or its negation. (It compares l itself with both ends: the least int has no negation.)
func literal(l int) bool {
	return l != 0 && -api.MaxVar <= l && l <= api.MaxVar
}

// variable returns the variable of a literal.
func variable(l int) int {
	return max(l, -l)
}

// rank returns a literal's place in the order of normal forms: by variables, the positive literal of each first.
func rank(l int) int {
	if l > 0 {
		return 2*l - 1
	}
	return -2 * l
}

// opposed reports whether a sorted clause, which has each literal once, has a literal and its negation: they are neighbours in it.
func opposed(c []int) bool {
	for i := 1; i < len(c); i++ {
		if c[i] == -c[i-1] {
			return true
		}
	}
	return false
}
