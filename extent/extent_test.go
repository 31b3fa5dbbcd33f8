package extent_test

import (
	"math"
	"slices"
	"strconv"
	"strings"
	"testing"

	"saltus/api"
	"saltus/extent"
)

// run is so many blocks from one on, in a state.
func run(many, from uint64, state int) api.Run {
	return api.Run{From: from, Len: many, State: state}
}

// data are runs of data and reserved runs that are reserved, of so many blocks from one on.
func data(many, from uint64) api.Run     { return run(many, from, 1) }
func reserved(many, from uint64) api.Run { return run(many, from, 2) }
func holes(many, from uint64) api.Run    { return run(many, from, 0) }

// apart are so many runs of two blocks of data, each with a hole ahead of it.
func apart(many int) []api.Run {
	var l []api.Run
	for i := range many {
		l = append(l, data(2, uint64(3*i+1)))
	}
	return l
}

// beside are so many runs of three blocks, side by side, in both states in turn.
func beside(many int) []api.Run {
	var l []api.Run
	for i := range many {
		l = append(l, run(3, uint64(3*i), 1+i%2))
	}
	return l
}

// with is a list with more runs behind.
func with(l []api.Run, more ...api.Run) []api.Run { return slices.Concat(l, more) }

// The chapter's example.
func TestExample(t *testing.T) {
	l, e := extent.Put([]api.Run{data(10, 0)}, api.Span{From: 4, Len: 2}, api.SHole)
	if !same(l, []api.Run{data(4, 0), data(4, 6)}) || e != api.OK {
		t.Errorf("%v, %v", show(l), e)
	}
}

// P19.1

// rights are runs that may be, and how many blocks they are.
func rights() []struct {
	l    []api.Run
	many uint64
} {
	return []struct {
		l    []api.Run
		many uint64
	}{
		{nil, 0},
		{[]api.Run{}, 0},
		{[]api.Run{data(1, 0)}, 1},
		{[]api.Run{reserved(1, 0)}, 1},
		{[]api.Run{data(5, 7)}, 5},
		{[]api.Run{data(1, blocks-1)}, 1},
		{[]api.Run{reserved(1, blocks-1)}, 1},
		{[]api.Run{data(blocks, 0)}, blocks},
		{[]api.Run{reserved(blocks, 0)}, blocks},
		{[]api.Run{data(blocks-1, 1)}, blocks - 1},
		{[]api.Run{data(blocks-1, 0), reserved(1, blocks-1)}, blocks},
		{[]api.Run{reserved(1, 0), data(blocks-1, 1)}, blocks},
		{[]api.Run{data(1, 0), data(1, 2)}, 2},
		{[]api.Run{data(1, 0), reserved(1, 1)}, 2},
		{[]api.Run{reserved(1, 0), data(1, 1)}, 2},
		{[]api.Run{reserved(1, 0), reserved(1, 2)}, 2},
		{[]api.Run{data(3, 1), reserved(4, 4), data(5, 8), data(6, 14)}, 18},
		{[]api.Run{data(1, 0), data(1, blocks-1)}, 2},
		{apart(63), 126},
		{apart(64), 128},
		{beside(63), 189},
		{beside(64), 192},
		{with(apart(63), reserved(1, blocks-1)), 127},
		{with(beside(63), reserved(blocks-189, 189)), blocks},
	}
}

func TestRightAndCount(t *testing.T) {
	for _, c := range rights() {
		if !extent.Right(c.l) {
			t.Errorf("Right(%v) = false", show(c.l))
		}
		if many, e := extent.Count(c.l); many != c.many || e != api.OK {
			t.Errorf("Count(%v) = %v, %v, want %v", show(c.l), many, e, c.many)
		}
	}
}

// wrongs are runs that may not be, by what is wrong with them.
func wrongs() map[string][]api.Run {
	l := map[string][]api.Run{
		"65 runs":                        apart(65),
		"65 runs side by side":           beside(65),
		"66 runs":                        apart(66),
		"128 runs":                       apart(128),
		"320 runs":                       apart(320),
		"65600 runs":                     apart(65600),
		"65 runs that are nothing":       make([]api.Run, 65),
		"a run that is nothing":          {{}},
		"the greatest block, one more":   {data(1, blocks)},
		"up to one more":                 {data(2, blocks-1)},
		"all blocks, and one more":       {data(blocks+1, 0)},
		"all blocks, but from 1 on":      {data(blocks, 1)},
		"numbers up to the greatest one": {data(1, top)},
		"all numbers but one":            {data(top, 0)},
		"all numbers but 0":              {data(top, 1)},
		"a sum of 2^64":                  {data(2, top-1)},
		"a sum of 2^64, half from half":  {data(1<<63, 1<<63)},
		"a sum of 2^64 and 1":            {data(top, 2)},
		"a sum of 2^64 and 5":            {data(top, 6)},
		"a sum of 2^64 and 2^59":         {data(blocks+1, top)},
		"the greatest sum":               {data(top, top)},
		"bits of 2^59":                   {data(1, blocks+3)},
		"no blocks, from the end on":     {data(0, blocks)},
		"no blocks, behind the end":      {data(0, blocks+1)},
		"no blocks of no state":          {{From: 5}},
		"the second begins as the first": {data(2, 4), data(1, 4)},
		"the same twice":                 {data(2, 4), data(2, 4)},
		"the same in two states":         {data(2, 4), reserved(2, 4)},
		"the second within the first":    {data(9, 4), reserved(2, 6)},
		"the first within the second":    {data(2, 6), reserved(9, 4)},
		"one block in both":              {data(3, 4), reserved(3, 6)},
		"one block in both, in a state":  {data(3, 4), data(3, 6)},
		"they fall":                      {data(1, 9), data(1, 4)},
		"they fall, side by side":        {data(1, 5), reserved(1, 4)},
		"they fall to block 0":           {data(1, 1), reserved(1, 0)},
		"the third is behind the first":  {data(1, 4), data(1, 8), data(1, 6)},
		"side by side, data":             {data(2, 4), data(1, 6)},
		"side by side, reserved":         {reserved(2, 4), reserved(1, 6)},
		"side by side, at the end":       {data(blocks-1, 0), data(1, blocks-1)},
		"the last two, side by side":     {data(1, 0), reserved(1, 1), data(1, 5), data(1, 6)},
		"one more behind all blocks":     {data(blocks, 0), reserved(1, blocks)},
		"one more in all blocks":         {data(blocks, 0), reserved(1, 0)},
		"a sum of 2^64, and one behind":  {data(top, 1), reserved(1, 5)},
		"two that have no blocks":        {data(0, 4), reserved(0, 5)},
	}
	for _, state := range []int{math.MinInt, -1 << 32, -3, -2, -1, 0, 3, 4, 1 << 8, 1<<8 + 1, 1<<32 + 1, 1<<32 + 2, math.MaxInt} {
		l["one of state "+strconv.Itoa(state)] = []api.Run{run(5, 7, state)}
		l["one block of state "+strconv.Itoa(state)] = []api.Run{run(1, 0, state)}
		l["the last of state "+strconv.Itoa(state)] = []api.Run{data(1, 1), run(1, 5, state)}
		l["side by side of state "+strconv.Itoa(state)] = []api.Run{data(4, 1), run(1, 5, state), data(1, 6)}
		l["two of state "+strconv.Itoa(state)] = []api.Run{run(1, 5, state), run(1, 7, state)}
	}
	for _, at := range []int{0, 1, 31, 62, 63} {
		for why, wrong := range map[string]api.Run{
			"no blocks":   data(0, uint64(3*at+1)),
			"a hole":      holes(2, uint64(3*at+1)),
			"of state 3":  run(2, uint64(3*at+1), 3),
			"of state -1": run(2, uint64(3*at+1), -1),
			"to the next": data(3, uint64(3*at+1)),
			"in the next": data(4, uint64(3*at+1)),
			"from ahead":  data(1, uint64(3*at-1)),
			"too long":    data(top-1, uint64(3*at+1)),
			"no block":    data(1, blocks+uint64(3*at+1)),
		} {
			many := apart(64)
			many[at] = wrong
			// What is behind the last one, or ahead of the first one, is no run.
			if why == "from ahead" && at == 0 || (why == "to the next" || why == "in the next") && at == 63 {
				continue
			}
			l["of 64 the one at "+strconv.Itoa(at)+", "+why] = many
		}
	}
	return l
}

// Each is told by each call, ahead of whatever else is wrong.
func TestRunsThatMayNotBe(t *testing.T) {
	for why, l := range wrongs() {
		if rightly(l) || extent.Right(l) {
			t.Errorf("%v: Right = true", why)
		}
		checkIsArg(t, l)
	}
}

// A run of 0 blocks is one that may not be, wherever it begins; of 1 block it may.
func TestRunsOfNoBlocksAndOfOne(t *testing.T) {
	for _, from := range []uint64{0, 1, 2, 1 << 32, blocks - 2, blocks - 1} {
		for _, state := range []int{1, 2} {
			checkIsArg(t, []api.Run{run(0, from, state)})
			if many, e := extent.Count([]api.Run{run(1, from, state)}); many != 1 || e != api.OK {
				t.Errorf("Count of one block from %v = %v, %v", from, many, e)
			}
		}
	}
}

// unlike are lists of which no two are the same: those that differ in one thing alone from one, and some that may not be.
func unlike() [][]api.Run {
	one := []api.Run{data(2, 1), reserved(3, 3), data(4, 9)}
	l := [][]api.Run{one, nil, {{}}, {{}, {}}, {holes(5, 3)}, {data(5, 3)}, {reserved(5, 3)}, {data(3, 5)}, {data(3, 5), data(3, 5)}, apart(63), apart(64), apart(65), beside(64), apart(64)[1:], {data(top, top)}}
	for at := range one {
		for _, n := range []uint64{0, 5, 6, 1 << 32, blocks, top} {
			from, many := slices.Clone(one), slices.Clone(one)
			from[at].From, many[at].Len = n, n
			l = append(l, from, many)
		}
		for _, state := range []int{math.MinInt, -1, 0, 3 - one[at].State, 3, 1<<32 + one[at].State, math.MaxInt} {
			other := slices.Clone(one)
			other[at].State = state
			l = append(l, other)
		}
		l = append(l, slices.Delete(slices.Clone(one), at, at+1), slices.Insert(slices.Clone(one), at, one[at]), slices.Insert(slices.Clone(one), at, api.Run{}))
	}
	return append(l, with(one, api.Run{}), with(one, one...), []api.Run{one[1], one[0], one[2]}, []api.Run{one[0], one[2], one[1]}, one[:1])
}

func TestLike(t *testing.T) {
	l := unlike()
	for i, a := range l {
		for j, b := range l {
			if got := extent.Like(a, slices.Clone(b)); got != (i == j) {
				t.Errorf("Like(%v, %v) = %v", show(a), show(b), got)
			}
		}
	}
}

func TestNilRunsAreNoRuns(t *testing.T) {
	if !extent.Like(nil, []api.Run{}) || !extent.Like([]api.Run{}, nil) || !extent.Like(nil, nil) {
		t.Error("runs that are nil are not as no runs")
	}
	for _, l := range [][]api.Run{nil, {}} {
		if !extent.Right(l) {
			t.Error("Right of no runs = false")
		}
		if many, e := extent.Count(l); many != 0 || e != api.OK {
			t.Errorf("Count of no runs = %v, %v", many, e)
		}
		for _, n := range []uint64{0, blocks - 1} {
			if state, e := extent.At(l, n); state != 0 || e != api.OK {
				t.Errorf("At of no runs, %v = %v, %v", n, state, e)
			}
		}
		checkQueryTells(t, l, api.Span{From: 3, Len: 4}, holes(4, 3))
		checkQueryTells(t, l, api.Span{From: 0, Len: blocks}, holes(blocks, 0))
		checkPutTells(t, l, api.Span{From: 3, Len: 4}, 0)
		checkPutTells(t, l, api.Span{From: 3, Len: 4}, 1, data(4, 3))
		checkPutTells(t, l, api.Span{From: 3, Len: 4}, 2, reserved(4, 3))
	}
}

// P19.2

// mixed are runs of both states, apart and side by side, up to the first block and the last one.
func mixed() []api.Run {
	return []api.Run{data(2, 0), reserved(3, 2), data(1, 7), reserved(4, 10), reserved(1, 15), data(2, 16), reserved(3, blocks-4), data(1, blocks-1)}
}

func TestAt(t *testing.T) {
	l := mixed()
	for n, want := range []byte("ddrrr..d..rrrr.rdd..") {
		checkAt(t, l, uint64(n), strings.IndexByte(states, want))
	}
	for n, want := range []byte("..rrrd") {
		checkAt(t, l, blocks-6+uint64(n), strings.IndexByte(states, want))
	}
	checkAt(t, l, 1<<32, 0)
	checkAt(t, []api.Run{data(blocks, 0)}, blocks-1, 1)
	checkAt(t, []api.Run{reserved(blocks, 0)}, 1<<40, 2)
	checkAt(t, apart(64), 191, 1)
	checkAt(t, apart(64), 192, 0)
	checkAt(t, beside(64), 191, 2)
	checkAt(t, beside(64), 188, 1)
	checkAt(t, beside(64), 192, 0)
}

func checkAt(t *testing.T, l []api.Run, n uint64, want int) {
	t.Helper()
	if got, e := extent.At(l, n); got != want || e != api.OK {
		t.Errorf("At(%v, %v) = %v, %v, want %v", show(l), n, got, e, want)
	}
}

func TestAtOfNoBlock(t *testing.T) {
	for _, l := range [][]api.Run{nil, mixed(), {data(blocks, 0)}, {reserved(1, 0)}, apart(64)} {
		for _, n := range []uint64{blocks, blocks + 1, 2*blocks - 1, 2 * blocks, 1<<63 - 1, 1 << 63, 1<<63 + 1, top - 1, top} {
			if got, e := extent.At(l, n); got != 0 || e != api.ErrRange {
				t.Errorf("At(%v, %v) = %v, %v, want ErrRange", show(l), n, got, e)
			}
		}
	}
}

// noSpans are spans that span.Check refuses, or whose last number is no block, with the error of each.
func noSpans() map[api.Span]api.Errno {
	return map[api.Span]api.Errno{
		{}:                                 api.ErrArg,
		{From: 1}:                          api.ErrArg,
		{From: blocks - 1}:                 api.ErrArg,
		{From: blocks}:                     api.ErrArg,
		{From: top}:                        api.ErrArg,
		{From: 1, Len: top}:                api.ErrRange,
		{From: 2, Len: top}:                api.ErrRange,
		{From: 6, Len: top}:                api.ErrRange,
		{From: top, Len: 2}:                api.ErrRange,
		{From: top, Len: blocks}:           api.ErrRange,
		{From: top, Len: top}:              api.ErrRange,
		{From: 1 << 63, Len: 1 << 63}:      api.ErrRange,
		{From: 1<<63 + 1, Len: 1 << 63}:    api.ErrRange,
		{From: top - 2, Len: 9}:            api.ErrRange,
		{From: blocks - 1, Len: top}:       api.ErrRange,
		{From: blocks, Len: 1}:             api.ErrRange,
		{From: blocks, Len: blocks}:        api.ErrRange,
		{From: blocks + 1, Len: 1}:         api.ErrRange,
		{From: blocks - 1, Len: 2}:         api.ErrRange,
		{From: blocks - 9, Len: 10}:        api.ErrRange,
		{From: 0, Len: blocks + 1}:         api.ErrRange,
		{From: 1, Len: blocks}:             api.ErrRange,
		{From: 0, Len: top}:                api.ErrRange,
		{From: top, Len: 1}:                api.ErrRange,
		{From: 1 << 63, Len: 1}:            api.ErrRange,
		{From: 1 << 60, Len: 5}:            api.ErrRange,
		{From: top - blocks, Len: 5}:       api.ErrRange,
		{From: 190, Len: blocks - 190 + 1}: api.ErrRange,
	}
}

func TestSpansThatAreNotOfBlocks(t *testing.T) {
	for _, l := range [][]api.Run{nil, mixed(), {data(blocks, 0)}, {reserved(1, 0)}, apart(64), beside(64)} {
		for s, want := range noSpans() {
			if got, e := extent.Query(l, s); len(got) != 0 || e != want {
				t.Errorf("Query(%v, %v) = %v, %v, want %v", show(l), s, show(got), e, want)
			}
			for state := range 3 {
				if got, e := extent.Put(l, s, state); len(got) != 0 || e != want {
					t.Errorf("Put(%v, %v, %v) = %v, %v, want %v", show(l), s, state, show(got), e, want)
				}
			}
		}
	}
}

func checkQueryTells(t *testing.T, l []api.Run, s api.Span, want ...api.Run) {
	t.Helper()
	if got, e := extent.Query(l, s); !same(got, want) || e != api.OK {
		t.Errorf("Query(%v, %v) = %v, %v, want %v", show(l), s, show(got), e, show(want))
	}
}

func TestQuery(t *testing.T) {
	l := mixed()
	for _, c := range []struct {
		s    api.Span
		want []api.Run
	}{
		{api.Span{From: 0, Len: blocks}, []api.Run{data(2, 0), reserved(3, 2), holes(2, 5), data(1, 7), holes(2, 8), reserved(4, 10), holes(1, 14), reserved(1, 15), data(2, 16), holes(blocks-22, 18), reserved(3, blocks-4), data(1, blocks-1)}},
		{api.Span{From: 0, Len: 1}, []api.Run{data(1, 0)}},
		{api.Span{From: 1, Len: 1}, []api.Run{data(1, 1)}},
		{api.Span{From: 2, Len: 1}, []api.Run{reserved(1, 2)}},
		{api.Span{From: 5, Len: 1}, []api.Run{holes(1, 5)}},
		{api.Span{From: 7, Len: 1}, []api.Run{data(1, 7)}},
		{api.Span{From: blocks - 1, Len: 1}, []api.Run{data(1, blocks-1)}},
		{api.Span{From: blocks - 2, Len: 1}, []api.Run{reserved(1, blocks-2)}},
		{api.Span{From: blocks - 5, Len: 1}, []api.Run{holes(1, blocks-5)}},
		{api.Span{From: 0, Len: 2}, []api.Run{data(2, 0)}},
		{api.Span{From: 0, Len: 3}, []api.Run{data(2, 0), reserved(1, 2)}},
		{api.Span{From: 1, Len: 3}, []api.Run{data(1, 1), reserved(2, 2)}},
		{api.Span{From: 3, Len: 1}, []api.Run{reserved(1, 3)}},
		{api.Span{From: 3, Len: 3}, []api.Run{reserved(2, 3), holes(1, 5)}},
		{api.Span{From: 5, Len: 2}, []api.Run{holes(2, 5)}},
		{api.Span{From: 6, Len: 2}, []api.Run{holes(1, 6), data(1, 7)}},
		{api.Span{From: 6, Len: 3}, []api.Run{holes(1, 6), data(1, 7), holes(1, 8)}},
		{api.Span{From: 9, Len: 5}, []api.Run{holes(1, 9), reserved(4, 10)}},
		{api.Span{From: 10, Len: 4}, []api.Run{reserved(4, 10)}},
		{api.Span{From: 11, Len: 2}, []api.Run{reserved(2, 11)}},
		{api.Span{From: 13, Len: 3}, []api.Run{reserved(1, 13), holes(1, 14), reserved(1, 15)}},
		{api.Span{From: 17, Len: 9}, []api.Run{data(1, 17), holes(8, 18)}},
		{api.Span{From: 1 << 40, Len: 1 << 50}, []api.Run{holes(1<<50, 1<<40)}},
		{api.Span{From: blocks - 3, Len: 3}, []api.Run{reserved(2, blocks-3), data(1, blocks-1)}},
		{api.Span{From: 17, Len: blocks - 17}, []api.Run{data(1, 17), holes(blocks-22, 18), reserved(3, blocks-4), data(1, blocks-1)}},
	} {
		checkQueryTells(t, l, c.s, c.want...)
	}
}

// Of 64 runs there are up to 129, with the holes.
func TestQueryOfMostRuns(t *testing.T) {
	var want []api.Run
	for _, r := range apart(64) {
		want = append(want, holes(1, r.From-1), r)
	}
	checkQueryTells(t, apart(64), api.Span{From: 0, Len: blocks}, with(want, holes(blocks-192, 192))...)
	checkQueryTells(t, apart(64), api.Span{From: 0, Len: 193}, with(want, holes(1, 192))...)
	checkQueryTells(t, apart(64), api.Span{From: 0, Len: 192}, want...)
	checkQueryTells(t, apart(64), api.Span{From: 2, Len: 189}, with([]api.Run{data(1, 2)}, with(want[2:127], data(1, 190))...)...)
	checkQueryTells(t, beside(64), api.Span{From: 0, Len: 192}, beside(64)...)
	checkQueryTells(t, beside(64), api.Span{From: 0, Len: blocks}, with(beside(64), holes(blocks-192, 192))...)
}

// P19.3

func checkPutTells(t *testing.T, l []api.Run, s api.Span, state int, want ...api.Run) {
	t.Helper()
	got, e := extent.Put(l, s, state)
	if !same(got, want) || e != api.OK || !extent.Right(got) {
		t.Errorf("Put(%v, %v, %v) = %v, %v, want %v", show(l), s, state, show(got), e, show(want))
	}
	if again, e := extent.Put(got, s, state); !same(again, want) || e != api.OK {
		t.Errorf("Put(%v, %v, %v) twice = %v, %v, want %v", show(l), s, state, show(again), e, show(want))
	}
}

func checkPutIs(t *testing.T, l []api.Run, s api.Span, state int, want api.Errno) {
	t.Helper()
	if got, e := extent.Put(l, s, state); len(got) != 0 || e != want {
		t.Errorf("Put(%v, %v, %v) = %v, %v, want %v", show(l), s, state, show(got), e, want)
	}
}

// A state that is none of the three is told ahead of what is wrong with the span, and of no space.
func TestPutOfNoState(t *testing.T) {
	for _, state := range []int{math.MinInt, -1 << 32, -2, -1, 3, 4, 1 << 8, 1<<8 + 1, 1 << 32, 1<<32 + 1, 1<<32 + 2, math.MaxInt} {
		for _, l := range [][]api.Run{nil, mixed(), apart(64)} {
			checkPutIs(t, l, api.Span{From: 3, Len: 2}, state, api.ErrArg)
			checkPutIs(t, l, api.Span{From: 1 << 40, Len: 2}, state, api.ErrArg)
			checkPutIs(t, l, api.Span{From: 0, Len: blocks}, state, api.ErrArg)
			for s := range noSpans() {
				checkPutIs(t, l, s, state, api.ErrArg)
			}
		}
	}
}

// On runs of each state: in none, within one, over a whole one, over several and parts of others, at the first block of one and at its last one.
func TestPut(t *testing.T) {
	l := []api.Run{data(4, 4), reserved(4, 8), data(4, 16)}
	for _, c := range []struct {
		from, many uint64
		state      int
		want       []api.Run
	}{
		{20, 1, 0, l},
		{0, 4, 0, l},
		{12, 4, 0, l},
		{21, 2, 1, with(l, data(2, 21))},
		{21, 2, 2, with(l, reserved(2, 21))},
		{0, 2, 1, with([]api.Run{data(2, 0)}, l...)},
		{13, 2, 2, []api.Run{l[0], l[1], reserved(2, 13), l[2]}},
		{13, 2, 1, []api.Run{l[0], l[1], data(2, 13), l[2]}},
		{5, 2, 0, []api.Run{data(1, 4), data(1, 7), l[1], l[2]}},
		{5, 2, 1, l},
		{5, 2, 2, []api.Run{data(1, 4), reserved(2, 5), data(1, 7), l[1], l[2]}},
		{17, 1, 2, []api.Run{l[0], l[1], data(1, 16), reserved(1, 17), data(2, 18)}},
		{4, 1, 0, []api.Run{data(3, 5), l[1], l[2]}},
		{4, 1, 2, []api.Run{reserved(1, 4), data(3, 5), l[1], l[2]}},
		{7, 1, 0, []api.Run{data(3, 4), l[1], l[2]}},
		{7, 1, 2, []api.Run{data(3, 4), reserved(5, 7), l[2]}},
		{8, 1, 1, []api.Run{data(5, 4), reserved(3, 9), l[2]}},
		{8, 1, 0, []api.Run{l[0], reserved(3, 9), l[2]}},
		{11, 1, 1, []api.Run{l[0], reserved(3, 8), data(1, 11), l[2]}},
		{19, 1, 0, []api.Run{l[0], l[1], data(3, 16)}},
		{4, 4, 0, []api.Run{l[1], l[2]}},
		{4, 4, 1, l},
		{4, 4, 2, []api.Run{reserved(8, 4), l[2]}},
		{8, 4, 0, []api.Run{l[0], l[2]}},
		{8, 4, 1, []api.Run{data(8, 4), l[2]}},
		{8, 8, 1, []api.Run{data(16, 4)}},
		{12, 4, 2, []api.Run{l[0], reserved(8, 8), l[2]}},
		{12, 4, 1, []api.Run{l[0], l[1], data(8, 12)}},
		{16, 4, 0, []api.Run{l[0], l[1]}},
		{16, 4, 2, []api.Run{l[0], l[1], reserved(4, 16)}},
		{6, 12, 0, []api.Run{data(2, 4), data(2, 18)}},
		{6, 12, 1, []api.Run{data(16, 4)}},
		{6, 12, 2, []api.Run{data(2, 4), reserved(12, 6), data(2, 18)}},
		{6, 4, 0, []api.Run{data(2, 4), reserved(2, 10), l[2]}},
		{3, 18, 0, nil},
		{3, 18, 1, []api.Run{data(18, 3)}},
		{4, 16, 2, []api.Run{reserved(16, 4)}},
		{0, blocks, 0, nil},
		{0, blocks, 1, []api.Run{data(blocks, 0)}},
		{0, blocks, 2, []api.Run{reserved(blocks, 0)}},
		{5, blocks - 5, 0, []api.Run{data(1, 4)}},
		{5, blocks - 5, 1, []api.Run{data(blocks-4, 4)}},
		{5, blocks - 5, 2, []api.Run{data(1, 4), reserved(blocks-5, 5)}},
		{0, 5, 2, []api.Run{reserved(5, 0), data(3, 5), l[1], l[2]}},
		{0, 1, 1, with([]api.Run{data(1, 0)}, l...)},
		{blocks - 1, 1, 2, with(l, reserved(1, blocks-1))},
		{blocks - 1, 1, 0, l},
		{blocks - 5, 5, 1, with(l, data(5, blocks-5))},
	} {
		checkPutTells(t, l, api.Span{From: c.from, Len: c.many}, c.state, c.want...)
	}
}

// Runs of one state that touch are joined, ahead, behind and on both sides; those of two states are not, nor those with a block between.
func TestPutJoins(t *testing.T) {
	for _, state := range []int{1, 2} {
		other := 3 - state
		both := []api.Run{run(2, 3, state), run(2, 8, state)}
		checkPutTells(t, both, api.Span{From: 5, Len: 2}, state, run(4, 3, state), both[1])
		checkPutTells(t, both, api.Span{From: 6, Len: 2}, state, both[0], run(4, 6, state))
		checkPutTells(t, both, api.Span{From: 5, Len: 3}, state, run(7, 3, state))
		checkPutTells(t, both, api.Span{From: 6, Len: 1}, state, both[0], run(1, 6, state), both[1])
		checkPutTells(t, both, api.Span{From: 1, Len: 2}, state, run(4, 1, state), both[1])
		checkPutTells(t, both, api.Span{From: 1, Len: 1}, state, run(1, 1, state), both[0], both[1])
		checkPutTells(t, both, api.Span{From: 10, Len: 2}, state, both[0], run(4, 8, state))
		checkPutTells(t, both, api.Span{From: 11, Len: 2}, state, both[0], both[1], run(2, 11, state))
		checkPutTells(t, both, api.Span{From: 5, Len: 3}, other, both[0], run(3, 5, other), both[1])
		checkPutTells(t, both, api.Span{From: 5, Len: 2}, other, both[0], run(2, 5, other), both[1])
		checkPutTells(t, both, api.Span{From: 6, Len: 2}, other, both[0], run(2, 6, other), both[1])
		checkPutTells(t, both, api.Span{From: 4, Len: 5}, state, run(7, 3, state))
		checkPutTells(t, both, api.Span{From: 0, Len: 3}, state, run(5, 0, state), both[1])
		checkPutTells(t, []api.Run{run(1, 0, state)}, api.Span{From: 1, Len: blocks - 1}, state, run(blocks, 0, state))
		checkPutTells(t, []api.Run{run(1, blocks-1, state)}, api.Span{From: 0, Len: blocks - 1}, state, run(blocks, 0, state))
		checkPutTells(t, []api.Run{run(1, blocks-1, state)}, api.Span{From: blocks - 2, Len: 1}, state, run(2, blocks-2, state))
		checkPutTells(t, []api.Run{run(1, 0, state)}, api.Span{From: 1, Len: blocks - 1}, other, run(1, 0, state), run(blocks-1, 1, other))
		between := []api.Run{run(2, 0, state), run(2, 2, other), run(2, 4, state), run(2, 6, other)}
		checkPutTells(t, between, api.Span{From: 2, Len: 2}, state, run(6, 0, state), between[3])
		checkPutTells(t, between, api.Span{From: 4, Len: 2}, other, between[0], run(6, 2, other))
		checkPutTells(t, between, api.Span{From: 2, Len: 4}, 0, between[0], between[3])
		checkPutTells(t, between, api.Span{From: 2, Len: 4}, state, run(6, 0, state), between[3])
		checkPutTells(t, between, api.Span{From: 2, Len: 4}, other, between[0], run(6, 2, other))
	}
}

// As many runs as there may be, and one more: by a run that is new, by one that is cut in two by holes, and by one that is cut in three by the other state.
func TestPutOfMostRuns(t *testing.T) {
	far := api.Span{From: 1000, Len: 1}
	for _, state := range []int{1, 2} {
		checkPutTells(t, apart(63), far, state, with(apart(63), run(1, 1000, state))...)
		checkPutIs(t, apart(64), far, state, api.ErrSpace)
		checkPutTells(t, apart(64)[1:], api.Span{From: 0, Len: 1}, state, with([]api.Run{run(1, 0, state)}, apart(64)[1:]...)...)
	}
	for _, at := range []int{0, 30, 61} {
		first := uint64(3 * at)
		// beside's runs are of three blocks: the one in the middle is cut out.
		middle := api.Span{From: first + 1, Len: 1}
		ahead, r, behind := beside(64)[:at], beside(64)[at], beside(64)[at+1:]
		checkPutTells(t, beside(64)[:63], middle, 0, with(ahead, with([]api.Run{run(1, first, r.State), run(1, first+2, r.State)}, behind[:len(behind)-1]...)...)...)
		checkPutIs(t, beside(64), middle, 0, api.ErrSpace)
		cut := []api.Run{run(1, first, r.State), run(1, first+1, 3-r.State), run(1, first+2, r.State)}
		checkPutTells(t, beside(62), middle, 3-r.State, with(ahead, with(cut, behind[:len(behind)-2]...)...)...)
		checkPutIs(t, beside(63), middle, 3-r.State, api.ErrSpace)
		checkPutIs(t, beside(64), middle, 3-r.State, api.ErrSpace)
		checkPutTells(t, beside(64), middle, r.State, beside(64)...)
		// A block at the end of apart's runs of two becomes another run, and makes no more of holes.
		end := api.Span{From: first + 2, Len: 1}
		apartCut := []api.Run{data(1, first+1), reserved(1, first+2)}
		checkPutTells(t, apart(63), end, 2, with(apart(63)[:at], with(apartCut, apart(63)[at+1:]...)...)...)
		checkPutIs(t, apart(64), end, 2, api.ErrSpace)
		checkPutTells(t, apart(64), end, 0, with(apart(64)[:at], with([]api.Run{data(1, first+1)}, apart(64)[at+1:]...)...)...)
	}
}

// Of 64 runs, what makes as many, or fewer, has room.
func TestPutThatMakesNoMoreThanThereWere(t *testing.T) {
	l := apart(64)
	checkPutTells(t, l, api.Span{From: 1, Len: 191}, 1, data(191, 1))
	checkPutTells(t, l, api.Span{From: 0, Len: blocks}, 2, reserved(blocks, 0))
	checkPutTells(t, l, api.Span{From: 0, Len: blocks}, 0)
	checkPutTells(t, l, api.Span{From: 0, Len: 1}, 1, with([]api.Run{data(3, 0)}, l[1:]...)...)
	checkPutTells(t, l, api.Span{From: 0, Len: 1}, 0, l...)
	checkPutTells(t, l, api.Span{From: 1000, Len: 5}, 0, l...)
	checkPutTells(t, l, api.Span{From: 3, Len: 1}, 1, with([]api.Run{data(5, 1)}, l[2:]...)...)
	checkPutTells(t, l, api.Span{From: 1, Len: 2}, 2, with([]api.Run{reserved(2, 1)}, l[1:]...)...)
	checkPutTells(t, l, api.Span{From: 1, Len: 2}, 0, l[1:]...)
	checkPutTells(t, l, api.Span{From: 190, Len: 2}, 0, l[:63]...)
	checkPutTells(t, l, api.Span{From: 192, Len: blocks - 192}, 1, with(l[:63], data(blocks-190, 190))...)
	checkPutTells(t, l, api.Span{From: 2, Len: 4}, 2, with([]api.Run{data(1, 1), reserved(4, 2)}, l[2:]...)...)
	checkPutTells(t, beside(64), api.Span{From: 3, Len: 3}, 1, with([]api.Run{data(9, 0)}, beside(64)[3:]...)...)
	checkPutTells(t, beside(64), api.Span{From: 2, Len: 1}, 2, with([]api.Run{data(2, 0), reserved(4, 2)}, beside(64)[2:]...)...)
}

// Runs that may not be are told ahead of all, a state that is none ahead of the span, the span's error ahead of its last number, and that ahead of no space.
func TestWhichErrorComesFirst(t *testing.T) {
	wrong := apart(65)
	beyond := api.Span{From: 190, Len: blocks}
	checkPutIs(t, wrong, api.Span{From: 2, Len: top}, 7, api.ErrArg)
	checkPutIs(t, wrong, api.Span{From: 2, Len: top}, 1, api.ErrArg)
	checkPutIs(t, wrong, beyond, 1, api.ErrArg)
	checkPutIs(t, wrong, api.Span{From: 1000, Len: 1}, 1, api.ErrArg)
	checkPutIs(t, apart(64), beyond, 7, api.ErrArg)
	checkPutIs(t, apart(64), beyond, -1, api.ErrArg)
	checkPutIs(t, apart(64), beyond, 1, api.ErrRange)
	checkPutIs(t, apart(64), api.Span{From: 191, Len: blocks}, 2, api.ErrRange)
	checkPutIs(t, apart(64), api.Span{From: blocks + 5}, 2, api.ErrArg)
	checkPutIs(t, apart(64), api.Span{From: 1000}, 2, api.ErrArg)
	checkPutIs(t, apart(64), api.Span{From: blocks, Len: 1}, 2, api.ErrRange)
	checkPutIs(t, apart(64), api.Span{From: top, Len: 2}, 2, api.ErrRange)
	checkPutIs(t, apart(64), api.Span{From: 191, Len: blocks - 191}, 2, api.ErrSpace)
}

// 63 runs and 64, apart and side by side, with all spans of their blocks and of some around.
func TestCallsOfMostRuns(t *testing.T) {
	for _, picture := range []string{
		strings.Repeat(".dd", 63), strings.Repeat(".dd", 64), strings.Repeat("r.", 64), strings.Repeat("drr", 32),
		strings.Repeat("dr", 31) + "d.ddd", strings.Repeat("ddr", 31) + "dddr",
	} {
		for _, at := range []uint64{0, 1 << 40, blocks - uint64(len(picture))} {
			s, whole := singles(at, len(picture)), picture
			if at > 0 {
				whole = "." + whole
			}
			if len(whole) < len(s)-1 {
				whole += "."
			}
			s.checkRuns(t, s.runs(whole), whole)
			pairs(len(whole), func(from, end int) {
				if (from+end)%11 == 0 || end-from < 3 {
					s.checkQuery(t, whole, from, end)
					for state := range 3 {
						s.checkPut(t, whole, from, end, state)
					}
				}
			})
			if t.Failed() {
				t.FailNow()
			}
		}
	}
}

// R4: no call changes the runs that it was handed, nor what stands behind their end; and an answer's list is nobody else's.
func TestRunsAreNotChangedAndNotShared(t *testing.T) {
	calls := map[string]func(l []api.Run) []api.Run{
		"Right": func(l []api.Run) []api.Run { extent.Right(l); return nil },
		"Like":  func(l []api.Run) []api.Run { extent.Like(l, l); return nil },
		"At":    func(l []api.Run) []api.Run { extent.At(l, 7); return nil },
		"Count": func(l []api.Run) []api.Run { extent.Count(l); return nil },
	}
	for _, s := range []api.Span{{From: 0, Len: 1}, {From: 1, Len: 1}, {From: 1, Len: 2}, {From: 2, Len: 9}, {From: 3, Len: 1}, {From: 192, Len: 4}, {From: 0, Len: blocks}, {From: blocks - 1, Len: 1}, {From: 5}, {From: blocks, Len: 1}} {
		name := strconv.FormatUint(s.Len, 10) + " from " + strconv.FormatUint(s.From, 10)
		calls["Query of "+name] = func(l []api.Run) []api.Run { got, _ := extent.Query(l, s); return got }
		for state := -1; state < 3; state++ {
			calls["Put on "+name+" of "+strconv.Itoa(state)] = func(l []api.Run) []api.Run { got, _ := extent.Put(l, s, state); return got }
		}
	}
	more := []api.Run{data(9, 9), holes(1, 1), run(top, top, -5)}
	for name, call := range calls {
		for _, want := range [][]api.Run{nil, mixed(), {data(blocks, 0)}, apart(3), apart(64), beside(64), apart(65), {holes(1, 1)}} {
			memory := with(want, more...)
			l := memory[:len(want)]
			unchanged := func() bool { return same(memory, with(want, more...)) }
			got := call(l)
			if !unchanged() {
				t.Errorf("%v changed runs: %v", name, show(memory))
			}
			was := slices.Clone(got)
			again := call(l)
			clear(got[:cap(got)])
			if !unchanged() {
				t.Errorf("%v's answer is its argument's memory", name)
			}
			if !same(again, was) {
				t.Errorf("%v: %v, and then %v", name, show(was), show(again))
			}
		}
	}
}
