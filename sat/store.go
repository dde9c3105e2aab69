package sat

// place is where the literals of a stored clause begin.
type place int32

const (
	none  place = 0 // no clause is there, since its head is before its literals
	head        = 2 // the numbers before the literals: glue and size
	given       = 0 // the glue of a clause that was added; learned ones have a greater one
)

// store has clauses one after another in a single list: as many lists of their own would be slower to follow.
type store struct {
	words []literal
}

// put stores a clause and returns its place.
func (t *store) put(lits []literal, glue int) place {
	t.words = append(t.words, literal(glue), literal(len(lits)))
	c := place(len(t.words))
	t.words = append(t.words, lits...)
	return c
}

// lits returns the literals of a clause themselves, not a copy.
func (t *store) lits(c place) []literal {
	return t.words[c : c+place(t.words[c-1])]
}

// glue returns how many levels the literals of a learned clause had: those with few are used often.
func (t *store) glue(c place) int {
	return int(t.words[c-head])
}

func (t *store) setGlue(c place, glue int) {
	t.words[c-head] = literal(glue)
}

// each calls visit for all clauses, in the order in which they were stored.
func (t *store) each(visit func(c place)) {
	for at := head; at <= len(t.words); at += head {
		c := place(at)
		visit(c)
		at += len(t.lits(c))
	}
}
