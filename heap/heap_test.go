package heap_test

import (
	"math"
	"slices"
	"testing"

	"weirgate/api"
	"weirgate/heap"
)

const most = 1 << 60 // the greatest activity

// strange returns numbers that are not variables of a heap of n.
func strange(n int) []int {
	return []int{0, -1, -n, n + 1, 2*n + 1, -api.MaxVar, api.MaxVar + 1, 1 << 32, 1<<32 + 1, math.MaxInt, math.MinInt, math.MinInt + 1}
}

// dice returns a function whose results depend on the seed alone.
func dice(seed uint64) func(n int) int {
	return func(n int) int {
		seed = seed*6364136223846793005 + 1442695040888963407
		return int(seed>>33) % n
	}
}

func made(t *testing.T, n int) *heap.Heap {
	t.Helper()
	h, e := heap.New(n)
	if h == nil || e != api.OK {
		t.Fatalf("P2.1: New(%d): %v", n, e)
	}
	return h
}

// drain removes all variables, and tells them in order.
func drain(h *heap.Heap) []int {
	var out []int
	for v, ok := h.Next(); ok; v, ok = h.Next() {
		out = append(out, v)
	}
	return out
}

// plain is a heap that looks through all its variables each time: slow, and plain.
type plain struct {
	in       []bool
	activity []int64
}

func newPlain(n int) *plain {
	p := &plain{make([]bool, n+1), make([]int64, n+1)}
	for v := 1; v <= n; v++ {
		p.in[v] = true
	}
	return p
}

func (p *plain) variable(v int) bool { return 1 <= v && v < len(p.in) }

func (p *plain) put(v int) bool {
	if !p.variable(v) || p.in[v] {
		return false
	}
	p.in[v] = true
	return true
}

func (p *plain) next() (int, bool) {
	best := 0
	for v := 1; v < len(p.in); v++ {
		if p.in[v] && (best == 0 || p.activity[v] > p.activity[best]) {
			best = v
		}
	}
	if best == 0 {
		return 0, false
	}
	p.in[best] = false
	return best, true
}

func (p *plain) bump(v int, by int64) bool {
	if !p.variable(v) || by < 0 {
		return false
	}
	p.activity[v] = int64(min(uint64(p.activity[v])+uint64(by), most)) // unsigned, it does not overflow
	return true
}

func (p *plain) halve() {
	for v := range p.activity {
		p.activity[v] >>= 1
	}
}

// agree reports whether h tells of itself what p does.
func agree(h *heap.Heap, p *plain) bool {
	n := 0
	for v := 1; v < len(p.in); v++ {
		if h.Has(v) != p.in[v] || h.Activity(v) != p.activity[v] {
			return false
		}
		if p.in[v] {
			n++
		}
	}
	return h.Len() == n
}

func TestNew(t *testing.T) {
	for _, n := range []int{-1, -2, -api.MaxVar, math.MinInt, api.MaxVar + 1, 2 * api.MaxVar, 1 << 32, math.MaxInt} {
		if h, e := heap.New(n); h != nil || e != api.ErrArg {
			t.Errorf("P2.1: New(%d): %v", n, e)
		}
	}
	for _, n := range []int{0, 1, 2, 7, 1000, api.MaxVar} {
		h := made(t, n)
		if h.Len() != n {
			t.Errorf("P2.1: New(%d) contains %d", n, h.Len())
		}
		for v := 1; v <= n; v++ {
			if !h.Has(v) || h.Activity(v) != 0 {
				t.Fatalf("P2.1: New(%d): %d is contained: %v, with activity %d", n, v, h.Has(v), h.Activity(v))
			}
		}
		var want []int
		for v := 1; v <= n; v++ {
			want = append(want, v)
		}
		if got := drain(h); !slices.Equal(got, want) {
			t.Errorf("P2.1: the variables of New(%d) are not in ascending order", n)
		}
	}
}

func TestNumbersThatAreNoVariables(t *testing.T) {
	for _, n := range []int{0, 1, 5} {
		h, p := made(t, n), newPlain(n)
		h.Bump(n, 3)
		p.bump(n, 3)
		for _, emptied := range []bool{false, true} {
			for _, v := range strange(n) {
				if h.Has(v) || h.Activity(v) != 0 || h.Put(v) {
					t.Errorf("P2.1: %d in a heap of %d", v, n)
				}
				if h.Bump(v, 1) || h.Bump(v, 0) || h.Bump(v, -1) || h.Activity(v) != 0 {
					t.Errorf("P2.2: %d in a heap of %d", v, n)
				}
			}
			if !agree(h, p) {
				t.Errorf("P2.1: a heap of %d (emptied: %v) changed by numbers that are not variables", n, emptied)
			}
			for range drain(h) {
				p.next()
			}
		}
	}
}

func TestNext(t *testing.T) {
	for _, x := range []struct {
		by   []int64
		want []int
	}{
		{nil, nil},
		{[]int64{0}, []int{1}},
		{[]int64{0, 5, 0}, []int{2, 1, 3}}, // the chapter's example
		{[]int64{5, 5, 5}, []int{1, 2, 3}},
		{[]int64{1, 2, 3, 4}, []int{4, 3, 2, 1}},
		{[]int64{4, 3, 2, 1}, []int{1, 2, 3, 4}},
		{[]int64{2, 7, 0, 7, 1}, []int{2, 4, 1, 5, 3}},
		{[]int64{0, 0, 9, 0, 0, 9, 0, 9}, []int{3, 6, 8, 1, 2, 4, 5, 7}},
		{[]int64{most - 1, most, 1, math.MaxInt64}, []int{2, 4, 1, 3}},
		{[]int64{1 << 31, 1 << 32, 1<<32 + 1, 1 << 33}, []int{4, 3, 2, 1}},
	} {
		h := made(t, len(x.by))
		for i, by := range x.by {
			h.Bump(i+1, by)
		}
		for i, want := range x.want {
			v, ok := h.Next()
			if v != want || !ok || h.Has(v) || h.Len() != len(x.want)-i-1 {
				t.Errorf("P2.1: %v: removed %d, %v, where %d is next", x.by, v, ok, want)
			}
		}
		for range 2 {
			if v, ok := h.Next(); v != 0 || ok || h.Len() != 0 {
				t.Errorf("P2.1: %v: removed %d, %v, from an empty heap", x.by, v, ok)
			}
		}
	}
}

func TestNextForEachWayToBeActive(t *testing.T) {
	const n, kinds = 6, 4
	for code := range 1 << (2 * n) {
		h, p, halved, q := made(t, n), newPlain(n), made(t, n), newPlain(n)
		for v := 1; v <= n; v++ {
			by := int64(code >> (2 * (v - 1)) % kinds)
			h.Bump(v, by)
			p.bump(v, by)
			halved.Bump(v, by)
			q.bump(v, by)
		}
		halved.Halve()
		q.halve()
		for range n {
			want, _ := p.next()
			if v, ok := h.Next(); v != want || !ok {
				t.Fatalf("P2.1: case %d: removed %d, where %d is next", code, v, want)
			}
			want, _ = q.next()
			if v, ok := halved.Next(); v != want || !ok {
				t.Fatalf("P2.2: case %d, halved: removed %d, where %d is next", code, v, want)
			}
		}
	}
}

func TestPut(t *testing.T) {
	h := made(t, 4)
	for v := 1; v <= 4; v++ {
		if h.Put(v) || h.Len() != 4 {
			t.Errorf("P2.1: %d inserted twice", v)
		}
	}
	h.Bump(3, 2)
	h.Bump(1, 1)
	drain(h)
	for _, v := range []int{4, 2, 1, 3} {
		if h.Has(v) || !h.Put(v) || !h.Has(v) || h.Put(v) {
			t.Errorf("P2.1: %d inserted", v)
		}
	}
	if h.Len() != 4 || h.Activity(3) != 2 || h.Activity(1) != 1 || h.Activity(4) != 0 {
		t.Errorf("P2.1: %d contained, activities %d, %d, %d", h.Len(), h.Activity(3), h.Activity(1), h.Activity(4))
	}
	if got := drain(h); !slices.Equal(got, []int{3, 1, 2, 4}) {
		t.Errorf("P2.1: %v, after all were inserted again", got)
	}
	empty := made(t, 0)
	if empty.Put(0) || empty.Put(1) || empty.Len() != 0 {
		t.Error("P2.1: inserted into a heap without variables")
	}
}

func TestBump(t *testing.T) {
	for _, x := range []struct {
		by   []int64
		want int64
	}{
		{[]int64{0}, 0},
		{[]int64{5}, 5},
		{[]int64{5, 0, 6}, 11},
		{[]int64{most - 1}, most - 1},
		{[]int64{most}, most},
		{[]int64{most + 1}, most},
		{[]int64{most - 1, 1}, most},
		{[]int64{most - 1, 2}, most},
		{[]int64{1, most - 1}, most},
		{[]int64{1, most}, most},
		{[]int64{most, most}, most},
		{[]int64{most, 0}, most},
		{[]int64{math.MaxInt64}, most},
		{[]int64{1, math.MaxInt64}, most},
		{[]int64{math.MaxInt64, math.MaxInt64}, most},
		{[]int64{most - 1, math.MaxInt64}, most},
	} {
		for _, contained := range []bool{true, false} {
			h := made(t, 3)
			if !contained {
				drain(h)
			}
			for _, by := range x.by {
				if !h.Bump(2, by) {
					t.Errorf("P2.2: Bump by %d returned false (contained: %v)", by, contained)
				}
			}
			if h.Activity(2) != x.want || h.Has(2) != contained || h.Activity(1) != 0 || h.Activity(3) != 0 {
				t.Errorf("P2.2: after bumps by %v (contained: %v): %d, beside %d and %d", x.by, contained, h.Activity(2), h.Activity(1), h.Activity(3))
			}
		}
	}
}

func TestBumpByNegativeNumbers(t *testing.T) {
	for _, by := range []int64{-1, -5, -most, math.MinInt64, math.MinInt64 + 1} {
		h := made(t, 3)
		h.Bump(2, 5)
		for v := 0; v <= 4; v++ {
			if h.Bump(v, by) {
				t.Errorf("P2.2: %d bumped by %d", v, by)
			}
		}
		if h.Activity(1) != 0 || h.Activity(2) != 5 || h.Activity(3) != 0 {
			t.Errorf("P2.2: bumps by %d had an effect: %d, %d, %d", by, h.Activity(1), h.Activity(2), h.Activity(3))
		}
		if got := drain(h); !slices.Equal(got, []int{2, 1, 3}) {
			t.Errorf("P2.2: bumps by %d had an effect: %v", by, got)
		}
	}
}

func TestBumpOfOneThatIsNotContained(t *testing.T) {
	h := made(t, 4)
	h.Next()
	h.Next()
	if !h.Bump(2, 8) || h.Has(2) || h.Len() != 2 {
		t.Errorf("P2.2: a bump inserted a variable: %d contained", h.Len())
	}
	h.Put(1)
	h.Put(2)
	if got := drain(h); !slices.Equal(got, []int{2, 1, 3, 4}) {
		t.Errorf("P2.2: %v", got)
	}
}

func TestHalve(t *testing.T) {
	for _, x := range []struct{ was, want int64 }{{0, 0}, {1, 0}, {2, 1}, {3, 1}, {4, 2}, {9, 4}, {1<<33 + 1, 1 << 32}, {most - 1, most/2 - 1}, {most, most / 2}} {
		h := made(t, 3)
		h.Next() // variable 1 is not contained, and is halved all the same
		h.Bump(1, x.was)
		h.Bump(3, x.was)
		h.Halve()
		if h.Activity(1) != x.want || h.Activity(2) != 0 || h.Activity(3) != x.want {
			t.Errorf("P2.2: the halves of %d, 0, %d: %d, %d, %d", x.was, x.was, h.Activity(1), h.Activity(2), h.Activity(3))
		}
		if h.Has(1) || h.Len() != 2 {
			t.Errorf("P2.2: halving changed what is contained: %d", h.Len())
		}
	}
	empty := made(t, 0)
	empty.Halve()
	if empty.Len() != 0 {
		t.Error("P2.2: halving changed an empty heap")
	}
}

func TestHalveMakesEqual(t *testing.T) {
	for _, x := range []struct {
		by   []int64
		want []int
	}{
		{[]int64{0, 1}, []int{1, 2}},
		{[]int64{2, 3}, []int{1, 2}},
		{[]int64{1, 2}, []int{2, 1}},
		{[]int64{2, 2, 3, 3, 0}, []int{1, 2, 3, 4, 5}},
		{[]int64{4, 5, 6, 7}, []int{3, 4, 1, 2}},
		{[]int64{0, 0, 0, 0, 0, 1, 1}, []int{1, 2, 3, 4, 5, 6, 7}},
	} {
		h := made(t, len(x.by))
		for i, by := range x.by {
			h.Bump(i+1, by)
		}
		h.Halve()
		if got := drain(h); !slices.Equal(got, x.want) {
			t.Errorf("P2.2: %v, halved: %v, want %v", x.by, got, x.want)
		}
	}
}

func TestManyCallsInAnyOrder(t *testing.T) {
	for seed := range uint64(300) {
		roll := dice(seed)
		n := roll(20)
		h, p := made(t, n), newPlain(n)
		for call := range 300 {
			v := roll(n+2) - roll(2) // now and then no variable
			ok, want := true, true
			switch roll(8) {
			case 0, 1:
				ok, want = h.Put(v), p.put(v)
			case 2, 3:
				var got, least int
				got, ok = h.Next()
				least, want = p.next()
				if got != least {
					t.Fatalf("P2.1: seed %d, call %d: removed %d, where %d is next", seed, call, got, least)
				}
			case 4, 5:
				by := int64(roll(6) - 1)
				ok, want = h.Bump(v, by), p.bump(v, by)
			case 6:
				by := int64(1) << roll(63)
				ok, want = h.Bump(v, by), p.bump(v, by)
			case 7:
				h.Halve()
				p.halve()
			}
			if ok != want || !agree(h, p) {
				t.Fatalf("P2.1, P2.2: seed %d: another heap after call %d", seed, call)
			}
		}
	}
}

// TestMany would take hours if each call went through all variables.
func TestMany(t *testing.T) {
	const n = api.MaxVar
	roll := dice(7)
	h := made(t, n)
	for range 3 * n {
		h.Bump(1+roll(n), int64(roll(50)))
	}
	for range 20 {
		for range n / 2 {
			h.Next()
		}
		for range n {
			v := 1 + roll(n)
			h.Bump(v, int64(roll(9)))
			h.Put(v)
		}
		h.Halve()
	}
	want := make([]int, 0, n)
	for v := 1; v <= n; v++ {
		if h.Has(v) {
			want = append(want, v)
		}
	}
	slices.SortStableFunc(want, func(v, w int) int { return int(h.Activity(w) - h.Activity(v)) })
	if h.Len() != len(want) {
		t.Fatalf("P2.1: %d are contained, Len is %d", len(want), h.Len())
	}
	if got := drain(h); !slices.Equal(got, want) {
		t.Error("P2.1: many variables in another order")
	}
}

func TestHeapsAreTheirOwn(t *testing.T) {
	h, other := made(t, 3), made(t, 3)
	h.Bump(3, 4)
	h.Next()
	if !other.Has(3) || other.Activity(3) != 0 || other.Len() != 3 {
		t.Error("P2.1: a heap changed with another one")
	}
	if got := drain(other); !slices.Equal(got, []int{1, 2, 3}) {
		t.Errorf("P2.1: a heap changed with another one: %v", got)
	}
}

// No call that the document lists panics, whatever it is given.
func TestHeapsThatNewDidNotReturn(t *testing.T) {
	for _, h := range []*heap.Heap{nil, {}} {
		h.Halve()
		if v, ok := h.Next(); v != 0 || ok || h.Len() != 0 {
			t.Errorf("P2.1: removed %d, %v, from no heap", v, ok)
		}
		for _, v := range append(strange(1), 1) {
			if h.Has(v) || h.Put(v) || h.Bump(v, 1) || h.Activity(v) != 0 {
				t.Errorf("P2.1: %d in no heap", v)
			}
		}
	}
}
