package rup

import (
	"weirgate/api"
	"weirgate/clause"
)

// present has the clauses that are present, and how often each normal form is. What they imply does not depend on how often.
type present struct {
	known  *known
	copies map[string]copies // by the key of a normal form
}

type copies struct {
	count int
	at    place // none for a tautology, which never implies anything
}

func newPresent() *present {
	return &present{newKnown(), map[string]copies{}}
}

// process does what a line says, and reports whether that is correct; if not, nothing is done.
func (p *present) process(l api.Line) bool {
	switch {
	case !clause.Right(l.Clause):
		return false
	case l.Delete:
		return p.remove(l.Clause)
	case !p.implies(l.Clause):
		return false
	default:
		p.add(l.Clause)
		return true
	}
}

// implies reports whether a valid clause follows. (What is present does, thus nothing else need be asked.)
func (p *present) implies(c []int) bool {
	return p.known.implies(c)
}

// add adds a valid clause.
func (p *present) add(c []int) {
	form, tautology := clause.Norm(c)
	name := key(form)
	all := p.copies[name]
	if all.count == 0 && !tautology {
		all.at = p.known.add(form)
	}
	all.count++
	p.copies[name] = all
}

// remove removes one clause with the same normal form as a valid one; false if there is none.
func (p *present) remove(c []int) bool {
	form, _ := clause.Norm(c)
	name := key(form)
	all := p.copies[name]
	switch {
	case all.count == 0:
		return false
	case all.count > 1:
		all.count--
		p.copies[name] = all
		return true
	case all.at != none:
		p.known.remove(all.at)
	}
	delete(p.copies, name)
	return true
}

// key returns a text that no other normal form has: three bytes for each literal.
func key(form []int) string {
	bs := make([]byte, 0, 3*len(form))
	for _, l := range form {
		n := l + api.MaxVar
		bs = append(bs, byte(n), byte(n>>8), byte(n>>16))
	}
	return string(bs)
}
