package model

import (
	"math"
	"slices"
	"testing"

	"saltus/api"
)

// metBlock is a block that is met, and which of its bytes are in the span.
type metBlock struct {
	n  uint64
	in api.Span
}

// checkMet holds which blocks a span meets, and that the iterator does not go on when it is left (Go would tell that by a panic).
func checkMet(t *testing.T, s api.Span, want ...metBlock) {
	t.Helper()
	for leave := 1; leave <= len(want)+1; leave++ {
		var got []metBlock
		for n, in := range met(s) {
			got = append(got, metBlock{n, in})
			if len(got) == leave {
				break
			}
		}
		if !slices.Equal(got, want[:min(leave, len(want))]) {
			t.Errorf("met(%v), left behind %v: %v, want %v", s, leave, got, want)
		}
	}
}

func TestMet(t *testing.T) {
	const end = math.MaxUint64
	checkMet(t, api.Span{From: 0, Len: 1}, metBlock{0, api.Span{From: 0, Len: 1}})
	checkMet(t, api.Span{From: 31, Len: 1}, metBlock{0, api.Span{From: 31, Len: 1}})
	checkMet(t, api.Span{From: 32, Len: 32}, metBlock{1, api.Span{From: 32, Len: 32}})
	checkMet(t, api.Span{From: 31, Len: 2}, metBlock{0, api.Span{From: 31, Len: 1}}, metBlock{1, api.Span{From: 32, Len: 1}})
	checkMet(t, api.Span{From: 70, Len: 64}, metBlock{2, api.Span{From: 70, Len: 26}}, metBlock{3, api.Span{From: 96, Len: 32}}, metBlock{4, api.Span{From: 128, Len: 6}})
	checkMet(t, api.Span{From: end, Len: 1}, metBlock{api.Blocks - 1, api.Span{From: end, Len: 1}})
	checkMet(t, api.Span{From: end - 31, Len: 32}, metBlock{api.Blocks - 1, api.Span{From: end - 31, Len: 32}})
	checkMet(t, api.Span{From: end - 32, Len: 33}, metBlock{api.Blocks - 2, api.Span{From: end - 32, Len: 1}}, metBlock{api.Blocks - 1, api.Span{From: end - 31, Len: 32}})
}

// A cell is put in its block's place, or takes the place that it has; a hole takes it away, or there was none.
func TestPutAndCellAt(t *testing.T) {
	l := []api.Cell{{N: 3, State: api.SReserved}, {N: 7, State: api.SReserved}}
	a, b := l[0], l[1]
	for n, want := range map[uint64][]api.Cell{
		0:              {{N: 0, State: api.SData, Data: "x"}, a, b},
		3:              {{N: 3, State: api.SData, Data: "x"}, b},
		4:              {a, {N: 4, State: api.SData, Data: "x"}, b},
		7:              {a, {N: 7, State: api.SData, Data: "x"}},
		api.Blocks - 1: {a, b, {N: api.Blocks - 1, State: api.SData, Data: "x"}},
	} {
		c := api.Cell{N: n, State: api.SData, Data: "x"}
		then := put(slices.Clone(l), c)
		if !slices.Equal(then, want) || cellAt(then, n) != c {
			t.Errorf("put of %v: %v, want %v", n, then, want)
		}
		hole := api.Cell{N: n, State: api.SHole}
		gone := slices.DeleteFunc(slices.Clone(l), func(c api.Cell) bool { return c.N == n })
		if then = put(slices.Clone(l), hole); !slices.Equal(then, gone) || cellAt(then, n) != hole {
			t.Errorf("put of a hole at %v: %v, want %v", n, then, gone)
		}
	}
}
