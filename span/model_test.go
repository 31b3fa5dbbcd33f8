package span_test

import (
	"math/big"
	"slices"
	"testing"

	"saltus/api"
	"saltus/span"
)

// The tests here hold the calls against sets of atoms. An atom is some numbers side by side: one of the lowest five, one of the highest five, or all those in the middle. Spans that begin and end at atoms' ends are cut and joined at such ends only, so sets of atoms tell all of them, up to both edges of the numbers.
const (
	edge  = 5
	atoms = 2*edge + 1
)

type set [atoms]bool

func first(atom int) uint64 {
	if atom <= edge {
		return uint64(atom)
	}
	return top - uint64(atoms-1-atom)
}

func last(atom int) uint64 {
	if atom < edge {
		return uint64(atom)
	}
	return top - uint64(atoms-1-atom)
}

// told are a set's spans, as few as can be; false, if it has all numbers.
func (s set) told() ([]api.Span, bool) {
	var l []api.Span
	for i := 0; i < atoms; i++ {
		if !s[i] {
			continue
		}
		from := i
		for i+1 < atoms && s[i+1] {
			i++
		}
		if from == 0 && i == atoms-1 {
			return nil, false
		}
		l = append(l, api.Span{From: first(from), Len: last(i) - first(from) + 1})
	}
	return l, true
}

// setOf is the atoms from one to another.
func setOf(from, to int) set {
	var s set
	for i := from; i <= to; i++ {
		s[i] = true
	}
	return s
}

func and(a, b set, in bool) set {
	var s set
	for i := range s {
		s[i] = a[i] && b[i] == in
	}
	return s
}

func or(a, b set) set {
	var s set
	for i := range s {
		s[i] = a[i] || b[i]
	}
	return s
}

// allSpans are the spans from an atom to an atom, but the one of all numbers, each with its set.
func allSpans() ([]api.Span, []set) {
	var l []api.Span
	var sets []set
	for from := range atoms {
		for to := from; to < atoms; to++ {
			s := setOf(from, to)
			if x, ok := s.told(); ok {
				l, sets = append(l, x[0]), append(sets, s)
			}
		}
	}
	return l, sets
}

func TestEachSpanMayBe(t *testing.T) {
	l, _ := allSpans()
	for _, s := range l {
		if e := span.Check(s); e != api.OK {
			t.Error(s, e)
		}
	}
}

// P1.2, and of P1.4: what is cut and what is left are together as many numbers.
func TestCutAndLessOfEachPair(t *testing.T) {
	l, sets := allSpans()
	for i, a := range l {
		for j, b := range l {
			cut, e := span.Cut(a, b)
			want, _ := and(sets[i], sets[j], true).told()
			if len(want) == 0 && (cut != api.Span{} || e != api.ErrNone) || len(want) > 0 && (cut != want[0] || e != api.OK) {
				t.Errorf("Cut(%v, %v) = %v, %v, want %v", a, b, cut, e, want)
			}
			less, e := span.Less(a, b)
			want, _ = and(sets[i], sets[j], false).told()
			if !slices.Equal(less, want) || e != api.OK {
				t.Errorf("Less(%v, %v) = %v, %v, want %v", a, b, less, e, want)
			}
			many := cut.Len
			for _, s := range less {
				many += s.Len
			}
			if many != a.Len {
				t.Errorf("of %v and %v: %v and %v are %v numbers", a, b, cut, less, many)
			}
		}
	}
}

// P1.3, and of P1.4: a union's union is that, and does not hang on the order.
func TestUnionOfEachTriple(t *testing.T) {
	l, sets := allSpans()
	for i, a := range l {
		for j, b := range l {
			for k, c := range l {
				want, ok := or(or(sets[i], sets[j]), sets[k]).told()
				checkUnion(t, []api.Span{a, b, c}, want, ok)
				if t.Failed() {
					return
				}
			}
		}
	}
}

func checkUnion(t *testing.T, l, want []api.Span, ok bool) {
	u, e := span.Union(l)
	if !ok {
		if len(u) != 0 || e != api.ErrRange {
			t.Errorf("Union(%v) = %v, %v, want ErrRange", l, u, e)
		}
		return
	}
	if !slices.Equal(u, want) || e != api.OK {
		t.Errorf("Union(%v) = %v, %v, want %v", l, u, e, want)
	}
	if again, e := span.Union(u); !slices.Equal(again, u) || e != api.OK {
		t.Errorf("Union(%v) = %v, %v, want it as it is", u, again, e)
	}
}

// P1.4: a union of more spans than three does not hang on their order.
func TestUnionInEachOrder(t *testing.T) {
	l := []api.Span{{From: 4, Len: 3}, {From: 0, Len: 2}, {From: 7, Len: 1}, {From: top, Len: 1}, {From: top - 3, Len: 2}, {From: 4, Len: 1}}
	want := []api.Span{{From: 0, Len: 2}, {From: 4, Len: 4}, {From: top - 3, Len: 2}, {From: top, Len: 1}}
	orders(l, 0, func(l []api.Span) { checkUnion(t, l, want, true) })
}

// orders has f see each order of a list from a place on.
func orders(l []api.Span, from int, f func([]api.Span)) {
	if from == len(l) {
		f(slices.Clone(l))
		return
	}
	for i := from; i < len(l); i++ {
		l[from], l[i] = l[i], l[from]
		orders(l, from+1, f)
		l[from], l[i] = l[i], l[from]
	}
}

// P1.3: the cover begins with the block of the span's first number and ends with that of its last one.
func TestCoverOfEachSpan(t *testing.T) {
	l, _ := allSpans()
	for _, s := range l {
		for _, size := range []uint64{1, 2, 3, 4, 5, 7, 32, 1<<32 - 1, 1 << 59, 1<<63 - 1, 1 << 63, 1<<63 + 1, top - 1, top} {
			c, e := span.Cover(s, size)
			if e != api.OK || c.Len == 0 {
				t.Fatalf("Cover(%v, %v) = %v, %v", s, size, c, e)
			}
			if !isIn(s.From, c.From, size) || !isIn(s.From+(s.Len-1), c.From+(c.Len-1), size) {
				t.Errorf("Cover(%v, %v) = %v", s, size, c)
			}
		}
	}
}

// isIn tells whether a number is in a block of a size.
func isIn(n, block, size uint64) bool {
	big1 := func(n uint64) *big.Int { return new(big.Int).SetUint64(n) }
	begin := new(big.Int).Mul(big1(block), big1(size))
	end := new(big.Int).Add(begin, big1(size))
	return begin.Cmp(big1(n)) <= 0 && big1(n).Cmp(end) < 0
}

// P1 and R2: each call ends without a panic at all arguments, and beside an error the other result is nothing.
func TestAnyArguments(t *testing.T) {
	edges := []uint64{0, 1, 2, 1 << 32, 1<<63 - 1, 1 << 63, 1<<63 + 1, top - 1, top}
	var l []api.Span
	for _, from := range edges {
		for _, many := range edges {
			l = append(l, api.Span{From: from, Len: many})
		}
	}
	for _, a := range l {
		if n, e := span.Last(a); e != span.Check(a) || e != api.OK && n != 0 {
			t.Error(a, n, e)
		}
		for _, size := range edges {
			if c, e := span.Cover(a, size); e != api.OK && c != (api.Span{}) {
				t.Error(a, size, c, e)
			}
		}
		for _, b := range l {
			if c, e := span.Cut(a, b); e != api.OK && c != (api.Span{}) {
				t.Error(a, b, c, e)
			}
			if c, e := span.Less(a, b); e != api.OK && len(c) != 0 {
				t.Error(a, b, c, e)
			}
			if c, e := span.Union([]api.Span{a, b}); e != api.OK && len(c) != 0 {
				t.Error(a, b, c, e)
			}
		}
	}
}
