package sat

// literal stands for variable v as 2v, and for its negation as 2v+1: thus it is an index, and in ascending order literals are in their normal form.
type literal int32

func inward(l int) literal {
	if l > 0 {
		return literal(2 * l)
	}
	return literal(-2*l + 1)
}

func (l literal) outward() int {
	if l.negation() < l {
		return -l.variable()
	}
	return l.variable()
}

func (l literal) variable() int {
	return int(l >> 1)
}

func (l literal) negation() literal {
	return l ^ 1
}
