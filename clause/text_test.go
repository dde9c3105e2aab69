package clause_test

import (
	"slices"
	"strings"
	"testing"

	"weirgate/api"
	"weirgate/clause"
)

func sameClauses(a, b [][]int) bool {
	return slices.EqualFunc(a, b, func(x, y []int) bool { return slices.Equal(x, y) })
}

func TestShow(t *testing.T) {
	for _, x := range []struct {
		cs   [][]int
		want string
	}{
		{nil, "p cnf 0 0\n"},
		{[][]int{}, "p cnf 0 0\n"},
		{[][]int{nil}, "p cnf 0 1\n0\n"},
		{[][]int{{}, {}}, "p cnf 0 2\n0\n0\n"},
		{[][]int{{1, -2}}, "p cnf 2 1\n1 -2 0\n"},
		{[][]int{{3, -1, 3}, {}, {-3, 3}}, "p cnf 3 3\n3 -1 3 0\n0\n-3 3 0\n"},
		{[][]int{{-api.MaxVar}, {api.MaxVar}}, "p cnf 100000 2\n-100000 0\n100000 0\n"},
	} {
		if got := clause.Show(x.cs); got != x.want {
			t.Errorf("P1.3: Show(%v): %q", x.cs, got)
		}
	}
	for _, n := range wrong {
		for _, cs := range [][][]int{{{n}}, {{1}, {2, n}}, {{n, 1}, {2}}} {
			if got := clause.Show(cs); got != "" {
				t.Errorf("P1.3: Show(%v): %q", cs, got)
			}
		}
	}
}

func TestParse(t *testing.T) {
	for _, x := range []struct {
		s    string
		want [][]int
	}{
		{"p cnf 0 0", nil},
		{"p cnf 0 0\n", nil},
		{"p cnf 7 0", nil},
		{"p cnf 0 1 0", [][]int{nil}},
		{"p cnf 0 3\n0 0\n0", [][]int{nil, nil, nil}},
		{"p cnf 2 1\n1 -2 0\n", [][]int{{1, -2}}},
		{"p cnf 2 2\n1 -2 0\n0\n", [][]int{{1, -2}, nil}},
		{"p cnf 9 1\n3 3 -3 1 0", [][]int{{3, 3, -3, 1}}}, // as they stand
		{"p cnf 3 2\n1\n-2\n\n3\n0 -1 0", [][]int{{1, -2, 3}, {-1}}},
		{"\t\r\n p\tcnf\r3\n1 \n1\t-2\r3\n0 \t\r\n", [][]int{{1, -2, 3}}},
		{"p\n cnf\n1\n1\n1\n0", [][]int{{1}}},
		{"p cnf 1 1 1 0", [][]int{{1}}},
	} {
		got, e := clause.Parse(x.s)
		if e != api.OK || !sameClauses(got, x.want) {
			t.Errorf("P1.3: Parse(%q): %v, %d", x.s, got, e)
		}
	}
}

func TestParseNumbers(t *testing.T) {
	for _, x := range []struct {
		s    string
		want [][]int
	}{
		{"p cnf 000002 000001 000002 000000", [][]int{{2}}},
		{"p cnf 2 1 -000002 00", [][]int{{-2}}},
		{"p cnf 999999 0", nil},
		{"p cnf 000000 000000", nil},
		{"p cnf 100000 1 100000 -100000 0", [][]int{{100000, -100000}}},
		{"p cnf 999999 1 100000 -100000 0", [][]int{{100000, -100000}}},
		{"p cnf 5 1 5 -5 0", [][]int{{5, -5}}},
	} {
		got, e := clause.Parse(x.s)
		if e != api.OK || !sameClauses(got, x.want) {
			t.Errorf("P1.3: Parse(%q): %v, %d", x.s, got, e)
		}
	}
}

func TestParseSkipsLines(t *testing.T) {
	for _, s := range []string{
		"c\np cnf 2 1\n1 -2 0",
		"c a note, 1 0\n\nc\nc\np cnf 2 1\n1 -2 0",
		"comment\np cnf 2 1\n1 -2 0",
		"c one line\r1 0\np cnf 2 1\n1 -2 0",
		"p\nc between\n cnf\nc 3\n2 1\n1 -2 0",
		"p cnf 2 1\nc 1 0\n1 -2 0\nc 2 0\n",
		"p cnf 2 1\n1\nc 0\n-2\ncnf\n0\nc",
		"p cnf 2 1\n1 -2 0\nc \xff\x00\u00e9",
	} {
		got, e := clause.Parse(s)
		if e != api.OK || !sameClauses(got, [][]int{{1, -2}}) {
			t.Errorf("P1.3: Parse(%q): %v, %d", s, got, e)
		}
	}
}

func TestParseFaults(t *testing.T) {
	for _, s := range []string{
		// the first words
		"", "\n", "c", "c p cnf 0 0", "p", "p cnf", "p cnf 0", "cnf 0 0", "0 0", "x cnf 0 0", "P cnf 0 0", "p CNF 0 0", "p dnf 0 0", "pcnf 0 0", "p p cnf 0 0", "p cnf0 0",
		"p cnf -1 0", "p cnf 0 -1", "p cnf -0 0", "p cnf +1 0", "p cnf 1 +0", "p cnf 0000001 0", "p cnf 1 0000000", "p cnf 1000000 0", "p cnf x 0", "p cnf 0 x", "p cnf 1a 0", "p cnf 0x1 0", "p cnf 1_0 0", "p cnf 1. 0", "p cnf \u0661 0", "p cnf \uff11 0",
		// lines
		"p\ncnf 0 0", " c note\np cnf 0 0", "\tc\np cnf 0 0", "C note\np cnf 0 0", "c note\rp cnf 0 0", "p cnf 0 0\n c", "p cnf 0 0\rc", "p cnf 0 0 c",
		// what separates words
		"p\vcnf 0 0", "p\fcnf 0 0", "p\x00cnf 0 0", "p\u00a0cnf 0 0", "p\u0085cnf 0 0", "p\u2028cnf 0 0", "p cnf 0 0\v", "p cnf 1 1 1\f0", "p cnf 1 1 1,0", "\ufeffp cnf 0 0",
		// the other words
		"p cnf 1 1 x 0", "p cnf 1 1 1 0 x", "p cnf 1 1 1 x0", "p cnf 1 1 +1 0", "p cnf 1 1 - 0", "p cnf 1 1 --1 0", "p cnf 1 1 1- 0", "p cnf 1 1 -+1 0", "p cnf 1 1 - 1 0", "p cnf 1 1 1 -0", "p cnf 1 1 -0 1 0", "p cnf 1 1 1 -000000", "p cnf 1 1 0000001 0", "p cnf 1 1 -0000001 0", "p cnf 1 1 1 0000000", "p cnf 9 1 \u0661 0", "p cnf 1 1 1 0 \xff", "p cnf 1 1 0x1 0", "p cnf 1 1 1.0 0", "p cnf 0 0 %",
		// the last clause
		"p cnf 1 1", "p cnf 1 1 1", "p cnf 1 0 1", "p cnf 1 1 1 0 1", "p cnf 1 2 1 0 1", "p cnf 1 1 1\nc 0", "p cnf 1 1 1 10",
		// variables
		"p cnf 0 1 1 0", "p cnf 1 1 2 0", "p cnf 1 1 -2 0", "p cnf 2 2 1 0 2 3 0", "p cnf 99999 1 100000 0", "p cnf 999999 1 100001 0", "p cnf 999999 1 -100001 0", "p cnf 999999 1 999999 0",
		// how many clauses
		"p cnf 1 0 1 0", "p cnf 1 2 1 0", "p cnf 1 1 1 0 1 0", "p cnf 0 0 0", "p cnf 0 1", "p cnf 0 1 0 0", "p cnf 0 999999 0",
	} {
		if got, e := clause.Parse(s); e != api.ErrParse || len(got) != 0 {
			t.Errorf("P1.3: Parse(%q): %v, %d", s, got, e)
		}
	}
}

func TestParseSize(t *testing.T) {
	const most = 100000
	s := "p cnf 2 1\n1 -2 0"
	for _, fill := range []string{" ", "\n", "\nc"} {
		long := s + fill + strings.Repeat(fill[:1], most-len(s)-len(fill))
		if got, e := clause.Parse(long); len(long) != most || e != api.OK || !sameClauses(got, [][]int{{1, -2}}) {
			t.Errorf("P1.3: %d bytes, filled with %q: %v, %d", len(long), fill, got, e)
		}
		if got, e := clause.Parse(long + fill[:1]); e != api.ErrBig || len(got) != 0 {
			t.Errorf("P1.3: %d bytes, filled with %q: %v, %d", len(long)+1, fill, got, e)
		}
	}
	if _, e := clause.Parse(strings.Repeat("x", most)); e != api.ErrParse {
		t.Errorf("P1.3: a wrong text of %d bytes: %d", most, e)
	}
	if _, e := clause.Parse(strings.Repeat("x", most+1)); e != api.ErrBig {
		t.Errorf("P1.3: a wrong text of %d bytes: %d", most+1, e)
	}
	if _, e := clause.Parse(strings.Repeat("\u00e9", most/2+1)); e != api.ErrBig {
		t.Errorf("P1.3: a text of fewer runes than %d, and more bytes: %d", most, e)
	}
	head := "p cnf 0 49990 "
	many := head + strings.Repeat("0 ", 49990)
	if got, e := clause.Parse(many); e != api.OK || len(got) != 49990 {
		t.Errorf("P1.3: many clauses: %d, %d", len(got), e)
	}
}

func TestParseOfShow(t *testing.T) {
	roll := dice(3)
	for range 300 {
		var cs [][]int
		for range roll(20) {
			cs = append(cs, someClause(roll, 1+roll(api.MaxVar), 8))
		}
		s := clause.Show(cs)
		got, e := clause.Parse(s)
		if e != api.OK || !sameClauses(got, cs) {
			t.Fatalf("P1.3: Parse(%q): %v, %d", s, got, e)
		}
		if again := clause.Show(got); again != s {
			t.Fatalf("P1.3: %q, shown again: %q", s, again)
		}
	}
}

func TestParseIsNewMemory(t *testing.T) {
	const s = "p cnf 9 5\n1 2 3 0 4 0 0 5 6 0 7 0"
	want := [][]int{{1, 2, 3}, {4}, nil, {5, 6}, {7}}
	first, _ := clause.Parse(s)
	second, _ := clause.Parse(s)
	for _, c := range second {
		fill(c)
	}
	if !sameClauses(first, want) {
		t.Errorf("P1.4: two results of Parse share memory: %v", first)
	}
	for i := range first {
		fill(first[i])
		for k := i + 1; k < len(first); k++ {
			if !slices.Equal(first[k], want[k]) {
				t.Fatalf("P1.4: clauses %d and %d of one result share memory: %v", i, k, first)
			}
		}
	}
	for i := len(want) - 1; i >= 0; i-- { // and the other way round: a later one may lie behind an earlier one
		third, _ := clause.Parse(s)
		fill(third[i])
		for k := range i {
			if !slices.Equal(third[k], want[k]) {
				t.Fatalf("P1.4: clauses %d and %d of one result share memory: %v", i, k, third)
			}
		}
	}
}
