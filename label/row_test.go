package label

import (
	"crypto/sha256"
	"encoding/binary"
	"slices"
	"strconv"
	"strings"
	"testing"

	"saltus/api"
)

// Pieces of numbers and of texts, by hand.
func TestCut(t *testing.T) {
	for _, x := range []struct {
		l      string
		places []int
		want   string
	}{
		{"", nil, ""},
		{"abc", nil, ""},
		{"a", []int{0}, "a"},
		{"abc", []int{0}, "abc"},
		{"abc", []int{0, 1}, "a bc"},
		{"abc", []int{0, 2}, "ab c"},
		{"abc", []int{0, 1, 2}, "a b c"},
		{"abcdefg", []int{0, 3, 4}, "abc d efg"},
		{"abcdefg", []int{2, 6}, "cdef g"},
	} {
		var texts, numbers []string
		for _, piece := range cut(strings.Split(x.l, ""), x.places) {
			texts = append(texts, strings.Join(piece, ""))
		}
		for _, piece := range cut([]byte(x.l), x.places) {
			numbers = append(numbers, string(piece))
		}
		if got := strings.Join(texts, " "); got != x.want {
			t.Errorf("cut(%q, %v) = %q, want %q", x.l, x.places, got, x.want)
		}
		if got := strings.Join(numbers, " "); got != x.want {
			t.Errorf("cut of bytes (%q, %v) = %q, want %q", x.l, x.places, got, x.want)
		}
	}
}

// toldRow is the row of a level that the chapter's words make of the one below, item by item: each one that is higher begins a group.
func toldRow(r row, level int) row {
	next := row{heights: []int{r.heights[0]}}
	group := r.labels[0]
	for at := 1; at < len(r.labels); at++ {
		if r.heights[at] > level {
			next.labels = append(next.labels, toldJoined(level, group))
			next.heights = append(next.heights, r.heights[at])
			group = ""
		}
		group += r.labels[at]
	}
	next.labels = append(next.labels, toldJoined(level, group))
	return next
}

// toldJoined is the label of labels on a level, by the library's SHA-256.
func toldJoined(level int, labels string) string {
	b := sha256.Sum256([]byte("\x02" + string(binary.LittleEndian.AppendUint64(nil, uint64(level))) + labels))
	return string(b[:])
}

// eachHeights has see each list of so many heights.
func eachHeights(many int, ahead []int, see func(heights []int)) {
	if many == 0 {
		see(ahead)
		return
	}
	for height := 1; height <= api.Levels; height++ {
		eachHeights(many-1, append(slices.Clone(ahead), height), see)
	}
}

// The rows of each list of up to three items, of whatever heights: what a key would make of them is not asked.
func TestNextRowOfEachShortList(t *testing.T) {
	for many := range 4 {
		eachHeights(many, nil, func(heights []int) { checkRows(t, heights) })
	}
}

// The same of longer ones: all heights twice, falling, rising, and both.
func TestNextRowOfLongerLists(t *testing.T) {
	falling := []int{8, 8, 7, 7, 6, 6, 5, 5, 4, 4, 3, 3, 2, 2, 1, 1}
	rising := slices.Clone(falling)
	slices.Reverse(rising)
	for _, heights := range [][]int{falling, rising, slices.Concat(rising, falling), slices.Concat(falling, rising), slices.Repeat([]int{8}, 64), slices.Repeat([]int{1}, 64), slices.Repeat([]int{1, 8}, 32), slices.Repeat([]int{8, 1}, 32), slices.Repeat([]int{3, 1, 2, 7}, 16)} {
		checkRows(t, heights)
	}
}

// checkRows holds the rows of items of some heights, on the levels 1 to 8: as many labels as the head, and the items that are higher; on level 8 one.
func checkRows(t *testing.T, heights []int) {
	t.Helper()
	r := row{heights: append([]int{headHeight}, heights...)}
	for at := range r.heights {
		r.labels = append(r.labels, toldJoined(at, strconv.Itoa(at)))
	}
	for level := 1; level <= api.Levels; level++ {
		labels, standing := slices.Clone(r.labels), slices.Clone(r.heights)
		want := toldRow(r, level)
		got := nextRow(r, level)
		if !slices.Equal(got.labels, want.labels) || !slices.Equal(got.heights, want.heights) {
			t.Fatalf("heights %v, level %v: %v, want %v", heights, level, got.heights, want.heights)
		}
		if !slices.Equal(r.labels, labels) || !slices.Equal(r.heights, standing) {
			t.Fatalf("heights %v: the row of level %v changed the one below", heights, level)
		}
		many := 1
		for _, height := range heights {
			if height > level {
				many++
			}
		}
		if len(got.labels) != many || len(got.heights) != many {
			t.Fatalf("heights %v, level %v: %v labels, %v heights, want %v", heights, level, len(got.labels), len(got.heights), many)
		}
		r = got
	}
	if len(r.labels) != 1 {
		t.Fatalf("heights %v, level 8: %v labels", heights, len(r.labels))
	}
}
