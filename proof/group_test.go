package proof

import (
	"slices"
	"testing"

	"saltus/api"
)

// rowOf are the places whose labels a level's row has: -1 for the head, and each item that is higher.
func rowOf(heights []int, level int) []int {
	row := []int{-1}
	for at, height := range heights {
		if height > level {
			row = append(row, at)
		}
	}
	return row
}

// lastUpTo is where, in a row, the last place up to one stands.
func lastUpTo(row []int, at int) int {
	last := 0
	for i, place := range row {
		if place <= at {
			last = i
		}
	}
	return last
}

// toldGroup is the group that the chapter's words tell: the label of the next row is joined of the row's, from its own place on, up to ahead of that row's next one.
func toldGroup(heights []int, at, level int) group {
	row, next := rowOf(heights, level), rowOf(heights, level+1)
	mine := lastUpTo(next, at)
	g := group{from: slices.Index(row, next[mine]), place: lastUpTo(row, at), end: len(row)}
	if mine+1 < len(next) {
		g.end = slices.Index(row, next[mine+1])
	}
	return g
}

// checkGroups holds the groups of each item of some heights, on each level.
func checkGroups(t *testing.T, heights []int) {
	t.Helper()
	was := slices.Clone(heights)
	for at := range heights {
		for level := range api.Levels {
			got, want := groupOf(heights, at, level), toldGroup(heights, at, level)
			if got != want {
				t.Fatalf("heights %v, the item at %v, level %v: %v, want %v", heights, at, level, got, want)
			}
		}
	}
	if !slices.Equal(heights, was) {
		t.Fatalf("heights %v were changed: %v", was, heights)
	}
}

// Groups by hand.
func TestGroupOf(t *testing.T) {
	for _, x := range []struct {
		heights   []int
		at, level int
		want      group
	}{
		{[]int{1}, 0, 0, group{0, 1, 2}},
		{[]int{1}, 0, 1, group{0, 0, 1}},
		{[]int{2}, 0, 0, group{1, 1, 2}},
		{[]int{2}, 0, 1, group{0, 1, 2}},
		{[]int{8}, 0, 6, group{1, 1, 2}},
		{[]int{8}, 0, 7, group{0, 1, 2}},
		{[]int{1, 1, 1}, 0, 0, group{0, 1, 4}},
		{[]int{1, 1, 1}, 1, 0, group{0, 2, 4}},
		{[]int{1, 1, 1}, 2, 0, group{0, 3, 4}},
		{[]int{1, 2, 1}, 0, 0, group{0, 1, 2}},
		{[]int{1, 2, 1}, 1, 0, group{2, 2, 4}},
		{[]int{1, 2, 1}, 2, 0, group{2, 3, 4}},
		{[]int{1, 2, 1}, 0, 1, group{0, 0, 2}},
		{[]int{1, 2, 1}, 2, 1, group{0, 1, 2}},
		{[]int{5, 2, 7, 3, 1, 4}, 4, 2, group{2, 3, 4}},
	} {
		if got := groupOf(x.heights, x.at, x.level); got != x.want {
			t.Errorf("heights %v, the item at %v, level %v: %v, want %v", x.heights, x.at, x.level, got, x.want)
		}
	}
}

// eachHeights has see each list of so many heights.
func eachHeights(many int, ahead []int, see func(heights []int)) {
	if many == 0 {
		see(ahead)
		return
	}
	for height := 1; height <= api.Levels; height++ {
		eachHeights(many-1, append(slices.Clone(ahead), height), see)
	}
}

// The groups of each list of up to four items, of whatever heights: what a key would make of them is not asked.
func TestGroupOfEachShortList(t *testing.T) {
	for many := range 5 {
		eachHeights(many, nil, func(heights []int) { checkGroups(t, heights) })
	}
}

// The same of longer ones: all heights twice, falling, rising, and both.
func TestGroupOfLongerLists(t *testing.T) {
	falling := []int{8, 8, 7, 7, 6, 6, 5, 5, 4, 4, 3, 3, 2, 2, 1, 1}
	rising := slices.Clone(falling)
	slices.Reverse(rising)
	for _, heights := range [][]int{falling, rising, slices.Concat(rising, falling), slices.Concat(falling, rising), slices.Repeat([]int{8}, 64), slices.Repeat([]int{1}, 64), slices.Repeat([]int{1, 8}, 32), slices.Repeat([]int{8, 1}, 32), slices.Repeat([]int{3, 1, 2, 7}, 16)} {
		checkGroups(t, heights)
	}
}
