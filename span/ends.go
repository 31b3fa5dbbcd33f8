package span

import (
	"iter"
	"math"

	"saltus/api"
)

// ends are a span's first and its last number. Unlike an api.Span they can also be those of all 2^64 numbers, whose Len would not fit.
type ends struct {
	first, last uint64
}

// endsOf are a span's ends, or why it may not be.
func endsOf(s api.Span) (ends, api.Errno) {
	last, e := Last(s)
	if e != api.OK {
		return ends{}, e
	}
	return ends{s.From, last}, api.OK
}

// bothEnds are two spans' ends; what is wrong with the first one is told first.
func bothEnds(a, b api.Span) (ends, ends, api.Errno) {
	x, e := endsOf(a)
	if e != api.OK {
		return ends{}, ends{}, e
	}
	y, e := endsOf(b)
	if e != api.OK {
		return ends{}, ends{}, e
	}
	return x, y, api.OK
}

// common are the ends of what is in both; of none, if nothing is.
func common(x, y ends) ends {
	return ends{max(x.first, y.first), min(x.last, y.last)}
}

// none tells whether no number is from the first to the last one.
func (x ends) none() bool { return x.first > x.last }

// reaches tells whether x, which does not begin behind y, meets it or goes up to right ahead of it.
func (x ends) reaches(y ends) bool {
	return x.last == math.MaxUint64 || y.first <= x.last+1
}

// span is the span with these ends: ErrRange, if it would be all 2^64 numbers.
func (x ends) span() (api.Span, api.Errno) {
	if x.first == 0 && x.last == math.MaxUint64 {
		return api.Span{}, api.ErrRange
	}
	return api.Span{From: x.first, Len: x.last - x.first + 1}, api.OK
}

// spans are the spans with these ends, in order: ErrRange, if one would be all 2^64 numbers.
func spans(all iter.Seq[ends]) ([]api.Span, api.Errno) {
	var l []api.Span
	for x := range all {
		s, e := x.span()
		if e != api.OK {
			return nil, e
		}
		l = append(l, s)
	}
	return l, api.OK
}
