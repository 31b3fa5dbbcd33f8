package extent_test

import (
	"fmt"
	"math"
	"math/big"
	"math/rand"
	"slices"
	"strings"
	"testing"

	"saltus/api"
	"saltus/extent"
)

// Runs are told here in another way: as a picture, a text with a byte for each stretch of blocks: . of holes, d of data, r of reserved ones. A scale has the block that each stretch begins with, and, behind these, the number of all blocks: so a picture tells the state of each block that there is.
type scale []uint64

const (
	top    = uint64(math.MaxUint64)
	blocks = uint64(1) << 59
	states = ".dr"
)

// edges is a scale of three blocks at either end, each by itself, and of all others in one stretch.
func edges() scale {
	return scale{0, 1, 2, 3, blocks - 3, blocks - 2, blocks - 1, blocks}
}

// singles is a scale of so many blocks, each by itself, from a block on, and of all others ahead of them and behind; from block 0 on, there are none ahead.
func singles(from uint64, many int) scale {
	var s scale
	if from > 0 {
		s = scale{0}
	}
	for i := range many {
		s = append(s, from+uint64(i))
	}
	if end := from + uint64(many); end < blocks {
		s = append(s, end)
	}
	return append(s, blocks)
}

// drawn is a scale of so many stretches, of sizes that are drawn.
func drawn(r *rand.Rand, many int) scale {
	s := scale{0, blocks}
	for len(s) < many+1 {
		n := r.Uint64() >> (5 + r.Intn(59))
		if r.Intn(2) == 0 {
			n = blocks - n
		}
		s = append(s, n)
		slices.Sort(s)
		s = slices.Compact(s)
	}
	return s
}

// span is the span of the stretches from one up to ahead of another one.
func (s scale) span(from, end int) api.Span {
	return api.Span{From: s[from], Len: s[end] - s[from]}
}

// told are a picture's runs, of holes too, from a stretch up to ahead of another one.
func (s scale) told(picture string, from, end int) []api.Run {
	var l []api.Run
	for from < end {
		left := strings.TrimLeft(picture[from:end], picture[from:from+1])
		to := end - len(left)
		l = append(l, api.Run{From: s[from], Len: s[to] - s[from], State: strings.IndexByte(states, picture[from])})
		from = to
	}
	return l
}

// runs are a picture's runs, of holes none.
func (s scale) runs(picture string) []api.Run {
	return slices.DeleteFunc(s.told(picture, 0, len(picture)), func(r api.Run) bool { return r.State == 0 })
}

// painted is a picture with the stretches from one up to ahead of another one in a state.
func painted(picture string, from, end, state int) string {
	return picture[:from] + strings.Repeat(states[state:state+1], end-from) + picture[end:]
}

// rightly tells, by the chapter's words and in numbers of any size, whether runs may be.
func rightly(l []api.Run) bool {
	if len(l) > 64 {
		return false
	}
	behind := big.NewInt(0) // the block behind the run ahead
	last := 0               // its state
	for _, r := range l {
		from := new(big.Int).SetUint64(r.From)
		far := from.Cmp(behind)
		if far < 0 || far == 0 && r.State == last || r.Len < 1 || r.State != 1 && r.State != 2 {
			return false
		}
		behind.Add(from, new(big.Int).SetUint64(r.Len))
		if behind.Cmp(new(big.Int).SetUint64(blocks)) > 0 {
			return false
		}
		last = r.State
	}
	return true
}

// same tells whether two lists are the same, run by run, number by number.
func same(a, b []api.Run) bool {
	if len(a) != len(b) {
		return false
	}
	for i := range a {
		if a[i].From != b[i].From || a[i].Len != b[i].Len || a[i].State != b[i].State {
			return false
		}
	}
	return true
}

// show is a list of runs as text, for what a test tells.
func show(l []api.Run) string {
	s := fmt.Sprintf("%v runs:", len(l))
	for _, r := range l {
		if len(s) > 300 {
			return s + " .."
		}
		s += fmt.Sprintf(" %v from %v in %v", r.Len, r.From, r.State)
	}
	return s
}

// checkIsArg holds that runs that may not be are told by each call, whatever else is wrong, and nothing beside that.
func checkIsArg(t *testing.T, l []api.Run) {
	t.Helper()
	if extent.Right(l) {
		t.Errorf("Right(%v) = true", show(l))
	}
	if many, e := extent.Count(l); many != 0 || e != api.ErrArg {
		t.Errorf("Count(%v) = %v, %v, want ErrArg", show(l), many, e)
	}
	for _, n := range []uint64{0, 1, blocks - 1, blocks, top} {
		if state, e := extent.At(l, n); state != 0 || e != api.ErrArg {
			t.Errorf("At(%v, %v) = %v, %v, want ErrArg", show(l), n, state, e)
		}
	}
	for _, s := range []api.Span{{}, {From: 0, Len: 1}, {From: 0, Len: blocks}, {From: 0, Len: blocks + 1}, {From: blocks}, {From: blocks, Len: 1}, {From: 2, Len: top}} {
		if got, e := extent.Query(l, s); len(got) != 0 || e != api.ErrArg {
			t.Errorf("Query(%v, %v) = %v, %v, want ErrArg", show(l), s, show(got), e)
		}
		for state := -1; state <= 3; state++ {
			if got, e := extent.Put(l, s, state); len(got) != 0 || e != api.ErrArg {
				t.Errorf("Put(%v, %v, %v) = %v, %v, want ErrArg", show(l), s, state, show(got), e)
			}
		}
	}
}

// checkRuns holds that runs are told to be those of a picture: by Right, Like and Count, and by At of each stretch's first block and last one.
func (s scale) checkRuns(t *testing.T, l []api.Run, picture string) {
	t.Helper()
	if !extent.Right(l) || !rightly(l) {
		t.Errorf("Right(%v) = false", show(l))
	}
	if !extent.Like(l, s.runs(picture)) || !extent.Like(s.runs(picture), l) {
		t.Errorf("Like(%v, the runs of %q) = false", show(l), picture)
	}
	var want uint64
	for i, b := range []byte(picture) {
		state := strings.IndexByte(states, b)
		if state > 0 {
			want += s[i+1] - s[i]
		}
		for _, n := range []uint64{s[i], s[i+1] - 1} {
			if got, e := extent.At(l, n); got != state || e != api.OK {
				t.Errorf("At(%v, %v) = %v, %v, want %v", show(l), n, got, e, state)
			}
		}
	}
	if got, e := extent.Count(l); got != want || e != api.OK {
		t.Errorf("Count(%v) = %v, %v, want %v", show(l), got, e, want)
	}
}

// checkPut holds P19.3 of a picture's runs and the span of some of its stretches, that what is answered may be, and that what is put again changes nothing. It answers the runs and their picture; those that there were, if there would be too many.
func (s scale) checkPut(t *testing.T, picture string, from, end, state int) ([]api.Run, string) {
	t.Helper()
	l, x := s.runs(picture), s.span(from, end)
	after := painted(picture, from, end, state)
	want := s.runs(after)
	got, e := extent.Put(l, x, state)
	if len(want) > 64 {
		if len(got) != 0 || e != api.ErrSpace {
			t.Errorf("Put(%v, %v, %v) = %v, %v, want ErrSpace", show(l), x, state, show(got), e)
		}
		return l, picture
	}
	if !same(got, want) || e != api.OK {
		t.Errorf("Put(%v, %v, %v) = %v, %v, want %v", show(l), x, state, show(got), e, show(want))
	}
	if !extent.Right(got) {
		t.Errorf("Put(%v, %v, %v) = %v, which may not be", show(l), x, state, show(got))
	}
	if again, e := extent.Put(got, x, state); !same(again, want) || e != api.OK {
		t.Errorf("Put(%v, %v, %v) twice = %v, %v, want %v", show(l), x, state, show(again), e, show(want))
	}
	return got, after
}

// checkQuery holds P19.2 of a picture's runs and the span of some of its stretches, and of P19.4 what follows of it.
func (s scale) checkQuery(t *testing.T, picture string, from, end int) {
	t.Helper()
	l, x := s.runs(picture), s.span(from, end)
	want := s.told(picture, from, end)
	got, e := extent.Query(l, x)
	if !same(got, want) || e != api.OK {
		t.Errorf("Query(%v, %v) = %v, %v, want %v", show(l), x, show(got), e, show(want))
		return
	}
	next, last := x.From, -1
	for _, r := range got {
		if r.From != next || r.Len == 0 || r.State == last {
			t.Errorf("Query(%v, %v) = %v", show(l), x, show(got))
		}
		for _, n := range []uint64{r.From, r.From + r.Len/2, r.From + r.Len - 1} {
			if state, e := extent.At(l, n); state != r.State || e != api.OK {
				t.Errorf("At(%v, %v) = %v, %v, but Query tells %v", show(l), n, state, e, show(got))
			}
		}
		next, last = r.From+r.Len, r.State
	}
	if next-x.From != x.Len {
		t.Errorf("Query(%v, %v) are %v blocks", show(l), x, next-x.From)
	}
}

// pictures has see each picture of so many stretches.
func pictures(many int, ahead string, see func(picture string)) {
	if len(ahead) == many {
		see(ahead)
		return
	}
	for _, state := range states {
		pictures(many, ahead+string(state), see)
	}
}

// pairs has see each from and end of some of so many stretches.
func pairs(many int, see func(from, end int)) {
	for from := range many {
		for end := from + 1; end <= many; end++ {
			see(from, end)
		}
	}
}

// P19.1 to P19.3, of each picture of seven stretches: up to the first block and to the last one.
func TestEachPictureOfSevenStretches(t *testing.T) {
	s := edges()
	pictures(7, "", func(picture string) {
		s.checkRuns(t, s.runs(picture), picture)
		pairs(7, func(from, end int) {
			s.checkQuery(t, picture, from, end)
			for state := range 3 {
				s.checkPut(t, picture, from, end, state)
			}
		})
		if t.Failed() {
			t.FailNow()
		}
	})
}

// P19.4, of each picture of five stretches: what was put is told by each block's state, and nothing else changed.
func TestWhatWasPutIsThere(t *testing.T) {
	for _, s := range []scale{{0, 1, 2, 3, 4, blocks}, {0, blocks - 4, blocks - 3, blocks - 2, blocks - 1, blocks}, {0, 1, 5, 1 << 40, blocks - 9, blocks}} {
		pictures(5, "", func(picture string) {
			pairs(5, func(from, end int) {
				for state := range 3 {
					l, after := s.checkPut(t, picture, from, end, state)
					s.checkRuns(t, l, after)
				}
			})
			if t.Failed() {
				t.FailNow()
			}
		})
	}
}

// lists has see each list of so many of some runs.
func lists(of []api.Run, many int, ahead []api.Run, see func(l []api.Run)) {
	if many == 0 {
		see(ahead)
		return
	}
	for _, r := range of {
		lists(of, many-1, append(slices.Clone(ahead), r), see)
	}
}

// someRuns are the runs of some numbers, lengths and states, one of each three.
func someRuns(froms, lens []uint64, states []int) []api.Run {
	var l []api.Run
	for _, from := range froms {
		for _, many := range lens {
			for _, state := range states {
				l = append(l, api.Run{From: from, Len: many, State: state})
			}
		}
	}
	return l
}

// Lists of up to three runs, of those that may be and of those that may not.
func TestEachShortList(t *testing.T) {
	see := func(l []api.Run) {
		if got, want := extent.Right(l), rightly(l); got != want {
			t.Fatalf("Right(%v) = %v, want %v", show(l), got, want)
		}
		if !rightly(l) && len(l) < 3 {
			checkIsArg(t, l)
		}
	}
	numbers := []uint64{0, 1, 2, 3, 4, blocks - 2, blocks - 1, blocks, blocks + 1, 1 << 63, top - 1, top}
	lists(someRuns(numbers, numbers, []int{-1, 0, 1, 2, 3}), 1, nil, see)
	lists(someRuns(numbers, []uint64{0, 1, 2, blocks - 1, blocks, top - 1, top}, []int{0, 1, 2}), 2, nil, see)
	lists(someRuns([]uint64{0, 1, 2, 3, 4}, []uint64{0, 1, 2, 3}, []int{0, 1, 2, 3}), 3, nil, see)
	lists(someRuns([]uint64{blocks - 5, blocks - 4, blocks - 3, blocks - 2, blocks - 1, blocks}, []uint64{1, 2, 3}, []int{1, 2}), 3, nil, see)
}

// Like tells of each two short lists what holding them number by number tells.
func TestLikeOfEachTwoShortLists(t *testing.T) {
	l := [][]api.Run{nil, {}}
	some := someRuns([]uint64{0, 1, top}, []uint64{0, 1, top}, []int{-1, 0, 1})
	for many := 1; many <= 2; many++ {
		lists(some, many, nil, func(one []api.Run) { l = append(l, one) })
	}
	for _, a := range l {
		for _, b := range l {
			if got := extent.Like(a, b); got != same(a, b) {
				t.Fatalf("Like(%v, %v) = %v", show(a), show(b), got)
			}
		}
	}
}

// Runs are put one behind the other, on stretches of sizes that are drawn, as long as there is room; each block is as it was put last.
func TestPutOneBehindTheOther(t *testing.T) {
	for seed := range int64(60) {
		r := rand.New(rand.NewSource(seed))
		many := []int{2, 5, 20, 70, 140, 300}[r.Intn(6)]
		s := drawn(r, many)
		picture := strings.Repeat(".", many)
		var l []api.Run
		for range 200 {
			from := r.Intn(many)
			end := min(many, from+1+r.Intn(3))
			if r.Intn(10) == 0 {
				end = from + 1 + r.Intn(many-from)
			}
			l, picture = s.checkPut(t, picture, from, end, r.Intn(3))
			s.checkQuery(t, picture, min(from, r.Intn(many)), end)
		}
		s.checkRuns(t, l, picture)
		s.checkQuery(t, picture, 0, many)
		if t.Failed() {
			t.Fatalf("seed %v", seed)
		}
	}
}

// Blocks put one by one, in any order, are what they are as runs.
func TestBlocksPutInAnyOrder(t *testing.T) {
	for seed := range int64(12) {
		r := rand.New(rand.NewSource(seed))
		from := []uint64{0, 1, 1 << 32, blocks - 100}[r.Intn(4)]
		s := singles(from, 100)
		ahead := slices.Index(s, from)
		picture := strings.Repeat(".", len(s)-1)
		var l []api.Run
		for _, at := range r.Perm(100) {
			at += ahead
			l, picture = s.checkPut(t, picture, at, at+1, r.Intn(3))
		}
		s.checkRuns(t, l, picture)
		pairs(len(picture), func(from, end int) { s.checkQuery(t, picture, from, end) })
	}
}

// P1: no call panics at any arguments, and all are as told here.
func FuzzExtent(f *testing.F) {
	f.Add(uint64(0), uint64(1), 1, uint64(2), uint64(3), 2, uint64(1), uint64(2), 0)
	f.Add(uint64(0), blocks, 1, blocks, uint64(1), 2, blocks-1, uint64(1), 2)
	f.Add(uint64(5), top, 2, top, top, 1, uint64(0), top, -1)
	f.Add(uint64(10), uint64(10), 1, uint64(20), uint64(5), 1, uint64(12), uint64(4), 2)
	f.Fuzz(func(t *testing.T, from1, len1 uint64, state1 int, from2, len2 uint64, state2 int, from, many uint64, state int) {
		l := []api.Run{{From: from1, Len: len1, State: state1}, {From: from2, Len: len2, State: state2}}
		x := api.Span{From: from, Len: many}
		for n := range len(l) + 1 {
			if extent.Right(l[:n]) != rightly(l[:n]) {
				t.Errorf("Right(%v) = %v", show(l[:n]), !rightly(l[:n]))
			}
			if !rightly(l[:n]) {
				checkIsArg(t, l[:n])
			} else if many > 0 && from < blocks && many <= blocks-from && state >= 0 && state <= 2 {
				checkOfAny(t, l[:n], x, state)
			} else if got, e := extent.Put(l[:n], x, state); len(got) != 0 || e != api.ErrArg && e != api.ErrRange {
				t.Errorf("Put(%v, %v, %v) = %v, %v", show(l[:n]), x, state, show(got), e)
			}
			extent.At(l[:n], from)
			extent.Query(l[:n], x)
			extent.Like(l[:n], l)
		}
	})
}

// checkOfAny holds all calls of runs that may be and a span of blocks, on a scale of just their ends.
func checkOfAny(t *testing.T, l []api.Run, x api.Span, state int) {
	t.Helper()
	s := scale{0, x.From, x.From + x.Len, blocks}
	for _, r := range l {
		s = append(s, r.From, r.From+r.Len)
	}
	slices.Sort(s)
	s = slices.Compact(s)
	picture := strings.Repeat(".", len(s)-1)
	for _, r := range l {
		picture = painted(picture, slices.Index(s, r.From), slices.Index(s, r.From+r.Len), r.State)
	}
	if !same(l, s.runs(picture)) {
		t.Fatalf("the runs of %q on %v are not %v", picture, s, show(l))
	}
	from, end := slices.Index(s, x.From), slices.Index(s, x.From+x.Len)
	s.checkRuns(t, l, picture)
	s.checkQuery(t, picture, from, end)
	got, after := s.checkPut(t, picture, from, end, state)
	s.checkRuns(t, got, after)
}
