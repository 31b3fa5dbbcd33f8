package extent

import (
	"cmp"
	"iter"
	"slices"

	"saltus/api"
	"saltus/span"
)

// joined are runs, which rise, of which those that touch in one state are made one.
func joined(rising []api.Run) iter.Seq[api.Run] {
	return func(yield func(api.Run) bool) {
		if len(rising) == 0 {
			return
		}
		now := rising[0]
		for _, next := range rising[1:] {
			if next.From == endOf(now) && next.State == now.State {
				now.Len += next.Len
				continue
			}
			if !yield(now) {
				return
			}
			now = next
		}
		yield(now)
	}
}

// everywhere are the runs of all blocks, rising: those of the holes between the others, too.
func everywhere(l []api.Run) iter.Seq[api.Run] {
	return func(yield func(api.Run) bool) {
		var from uint64
		for _, r := range l {
			if from < r.From && !yield(hole(from, r.From)) {
				return
			}
			if !yield(r) {
				return
			}
			from = endOf(r)
		}
		if from < api.Blocks {
			yield(hole(from, api.Blocks))
		}
	}
}

// pieces are what is left of runs beside a span, and, if it is not to be holes, the span itself in its state; rising, but not joined.
func pieces(l []api.Run, s api.Span, state int) []api.Run {
	var p []api.Run
	if state != api.SHole {
		p = append(p, runOf(s, state))
	}
	for _, r := range l {
		// Neither span has an error: the run may be, and the span is one of blocks.
		left, _ := span.Less(spanOf(r), s)
		for _, x := range left {
			p = append(p, runOf(x, r.State))
		}
	}
	slices.SortFunc(p, func(a, b api.Run) int { return cmp.Compare(a.From, b.From) })
	return p
}

// hole is a run of holes from a block on, up to ahead of another one.
func hole(from, end uint64) api.Run {
	return api.Run{From: from, Len: end - from, State: api.SHole}
}

// endOf is the block behind a run that may be: no more than a uint64 holds.
func endOf(r api.Run) uint64 { return r.From + r.Len }

// spanOf is the span of a run's blocks.
func spanOf(r api.Run) api.Span { return api.Span{From: r.From, Len: r.Len} }

// runOf is the run of a span's blocks, in a state.
func runOf(s api.Span, state int) api.Run {
	return api.Run{From: s.From, Len: s.Len, State: state}
}
