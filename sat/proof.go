package sat

import (
	"slices"

	"weirgate/api"
)

// proof has all lines so far, one after another in a single list, since there may be very many.
type proof struct {
	lits  []literal
	lines []line
}

// line says what happens to a clause; its literals begin at from, and end where the next line's begin.
type line struct {
	deleted bool
	from    int
}

// add appends a line that adds a clause, which is not a tautology and has each literal once.
func (p *proof) add(lits ...literal) {
	p.write(false, lits)
}

// remove appends a line that deletes a clause.
func (p *proof) remove(lits ...literal) {
	p.write(true, lits)
}

func (p *proof) write(deleted bool, lits []literal) {
	from := len(p.lits)
	p.lines = append(p.lines, line{deleted, from})
	p.lits = append(p.lits, lits...)
	slices.Sort(p.lits[from:])
}

// tell returns all lines, in new memory.
func (p *proof) tell() []api.Line {
	lines := make([]api.Line, len(p.lines))
	for i, l := range p.lines {
		to := len(p.lits)
		if i+1 < len(p.lines) {
			to = p.lines[i+1].from
		}
		lines[i] = api.Line{Delete: l.deleted, Clause: outwards(p.lits[l.from:to])}
	}
	return lines
}

func outwards(lits []literal) []int {
	out := make([]int, len(lits))
	for i, l := range lits {
		out[i] = l.outward()
	}
	return out
}
