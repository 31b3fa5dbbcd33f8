// Package span is layer 1: spans of the numbers from 0 to 2^64-1.
package span

import (
	"cmp"
	"iter"
	"math"
	"slices"

	"saltus/api"
)

// Check tells why a span may not be.
func Check(s api.Span) api.Errno {
	if s.Len == 0 {
		return api.ErrArg
	}
	// Held against the room that is left, since From + Len would wrap round.
	if s.Len-1 > math.MaxUint64-s.From {
		return api.ErrRange
	}
	return api.OK
}

// Last is a span's last number.
func Last(s api.Span) (uint64, api.Errno) {
	if e := Check(s); e != api.OK {
		return 0, e
	}
	return s.From + (s.Len - 1), api.OK
}

// Cut is what two spans have in common.
func Cut(a, b api.Span) (api.Span, api.Errno) {
	x, y, e := bothEnds(a, b)
	if e != api.OK {
		return api.Span{}, e
	}
	both := common(x, y)
	if both.none() {
		return api.Span{}, api.ErrNone
	}
	return both.span()
}

// Less is one span without another one.
func Less(a, b api.Span) ([]api.Span, api.Errno) {
	x, y, e := bothEnds(a, b)
	if e != api.OK {
		return nil, e
	}
	both := common(x, y)
	if both.none() {
		return []api.Span{a}, api.OK
	}
	// A number less or more can't wrap round: it is still one of a.
	var left []ends
	if x.first < both.first {
		left = append(left, ends{x.first, both.first - 1})
	}
	if both.last < x.last {
		left = append(left, ends{both.last + 1, x.last})
	}
	return spans(slices.Values(left))
}

// Cover is the span of the blocks of a size that have a number of a span.
func Cover(s api.Span, size uint64) (api.Span, api.Errno) {
	x, e := endsOf(s)
	if e != api.OK {
		return api.Span{}, e
	}
	if size == 0 {
		return api.Span{}, api.ErrArg
	}
	return ends{x.first / size, x.last / size}.span()
}

// Union is the spans, rising and as few as can be, of all numbers that are in one of some spans.
func Union(l []api.Span) ([]api.Span, api.Errno) {
	sorted := make([]ends, 0, len(l))
	for _, s := range l {
		x, e := endsOf(s)
		if e != api.OK {
			return nil, e
		}
		sorted = append(sorted, x)
	}
	slices.SortFunc(sorted, func(x, y ends) int { return cmp.Compare(x.first, y.first) })
	return spans(joined(sorted))
}

// joined are ends, sorted by their first numbers, of which those that meet or touch are made one.
func joined(sorted []ends) iter.Seq[ends] {
	return func(yield func(ends) bool) {
		if len(sorted) == 0 {
			return
		}
		now := sorted[0]
		for _, next := range sorted[1:] {
			if now.reaches(next) {
				now.last = max(now.last, next.last)
				continue
			}
			if !yield(now) {
				return
			}
			now = next
		}
		yield(now)
	}
}
