package skip

import (
	"slices"
	"testing"

	"saltus/api"
)

// walked are the hops of the chapter's words, step by step, among all items of some heights, of which so many have a number that is not more than what is searched for.
func walked(heights []int, near int) []api.Hop {
	var hops []api.Hop
	at, level := -1, 7
	for level >= 0 {
		first := at + 1
		for first < len(heights) && heights[first] <= level {
			first++
		}
		if first < len(heights) && first < near {
			at = first
			hops = append(hops, api.Hop{Level: level, At: at})
		} else {
			level--
		}
	}
	return hops
}

// eachHeights has see each list of so many heights.
func eachHeights(many int, ahead []int, see func(heights []int)) {
	if many == 0 {
		see(ahead)
		return
	}
	for height := 1; height <= api.Levels; height++ {
		eachHeights(many-1, append(slices.Clone(ahead), height), see)
	}
}

// Each list of up to five heights, by itself, and as the beginning of a longer one: the items behind it, whatever their heights, change no hop.
func TestSearchOfEachShortList(t *testing.T) {
	for many := range 6 {
		eachHeights(many, nil, func(heights []int) {
			got := search(heights)
			for _, more := range [][]int{nil, {1}, {8}, {1, 8}, {4, 3, 8, 8}} {
				want := walked(slices.Concat(heights, more), many)
				if !slices.Equal(got, want) {
					t.Fatalf("search(%v) = %v, want %v", heights, got, want)
				}
			}
		})
	}
}

// P16.4 of a list of all heights, each twice, rising, falling, and both: the hops go on, never up, and the last one is to the last item.
func TestSearchGoesOnAndNeverUp(t *testing.T) {
	falling := []int{8, 8, 7, 7, 6, 6, 5, 5, 4, 4, 3, 3, 2, 2, 1, 1}
	rising := slices.Clone(falling)
	slices.Reverse(rising)
	for _, x := range []struct {
		heights []int
		hops    int
	}{
		{falling, 16},
		{rising, 2},
		{slices.Concat(rising, falling), 18},
		{slices.Concat(falling, rising), 4},
		{slices.Repeat([]int{1}, 64), 64},
		{slices.Repeat([]int{8}, 64), 64},
		{nil, 0},
	} {
		hops := search(x.heights)
		if len(hops) != x.hops {
			t.Errorf("search(%v) = %v, want %v hops", x.heights, hops, x.hops)
		}
		for i := 1; i < len(hops); i++ {
			if hops[i].At <= hops[i-1].At || hops[i].Level > hops[i-1].Level {
				t.Errorf("search(%v) = %v", x.heights, hops)
			}
		}
		if len(hops) > 0 && hops[len(hops)-1].At != len(x.heights)-1 {
			t.Errorf("search(%v) = %v", x.heights, hops)
		}
	}
}
