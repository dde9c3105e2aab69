package clause

import (
	"slices"
	"strconv"
	"strings"

	"weirgate/api"
)

const (
	maxBytes  = 100000 // of a text
	maxDigits = 6      // of a number
)

// Show returns the clauses as a text; "" if one of them is not valid.
func Show(cs [][]int) string {
	if slices.ContainsFunc(cs, func(c []int) bool { return !Right(c) }) {
		return ""
	}
	var b strings.Builder
	number := func(n int) { b.WriteString(strconv.Itoa(n)) }
	b.WriteString("p cnf ")
	number(Greatest(cs))
	b.WriteByte(' ')
	number(len(cs))
	b.WriteByte('\n')
	for _, c := range cs {
		for _, l := range c {
			number(l)
			b.WriteByte(' ')
		}
		b.WriteString("0\n")
	}
	return b.String()
}

// Parse returns the clauses of a text, or none and ErrBig or ErrParse.
func Parse(s string) ([][]int, api.Errno) {
	if len(s) > maxBytes {
		return nil, api.ErrBig
	}
	ws := words(s)
	vars, count, ok := head(ws)
	if !ok {
		return nil, api.ErrParse
	}
	cs, ok := body(ws[4:], vars)
	if !ok || len(cs) != count {
		return nil, api.ErrParse
	}
	return cs, api.OK
}

// words returns the words of all lines that are not skipped.
func words(s string) []string {
	var ws []string
	blank := func(r rune) bool { return r == ' ' || r == '\t' || r == '\r' }
	for line := range strings.SplitSeq(s, "\n") {
		if !strings.HasPrefix(line, "c") {
			ws = append(ws, strings.FieldsFunc(line, blank)...)
		}
	}
	return ws
}

// head returns the numbers of variables and clauses that the first four words tell.
func head(ws []string) (int, int, bool) {
	if len(ws) < 4 || ws[0] != "p" || ws[1] != "cnf" {
		return 0, 0, false
	}
	vars, rightVars := number(ws[2])
	count, rightCount := number(ws[3])
	return vars, count, rightVars && rightCount
}

// body returns the clauses that the words after the head tell, with variables up to vars.
func body(ws []string, vars int) ([][]int, bool) {
	var cs [][]int
	var c []int
	for _, w := range ws {
		l, ok := signed(w)
		if !ok || variable(l) > vars {
			return nil, false
		}
		if l != 0 {
			c = append(c, l)
			continue
		}
		cs = append(cs, c)
		c = nil // the next clause gets memory of its own
	}
	return cs, len(c) == 0
}

// signed returns the literal that w is, or 0 for the end of a clause.
func signed(w string) (int, bool) {
	digits, negative := strings.CutPrefix(w, "-")
	n, ok := number(digits)
	if !ok || n > api.MaxVar || negative && n == 0 {
		return 0, false
	}
	if negative {
		n = -n
	}
	return n, true
}

// number returns the number that the digits of w tell. (The library's reading would also take a sign.)
func number(w string) (int, bool) {
	if w == "" || len(w) > maxDigits {
		return 0, false
	}
	n := 0
	for _, r := range w {
		if r < '0' || r > '9' {
			return 0, false
		}
		n = 10*n + int(r-'0')
	}
	return n, true
}
