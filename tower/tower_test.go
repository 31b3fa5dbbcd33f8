package tower_test

import (
	"math"
	"slices"
	"strconv"
	"strings"
	"testing"

	"saltus/api"
	"saltus/tower"
)

// of is a text of so many bytes, whose pieces are not alike.
func of(many int) string {
	b := make([]byte, many)
	for i := range b {
		b[i] = byte(i*7 + i>>8*31 + i>>16*5 + 3)
	}
	return string(b)
}

// filled is a text of one byte, so often.
func filled(b byte, many int) string { return strings.Repeat(string([]byte{b}), many) }

// show is a key as text, for what a test tells; a long one by its beginning.
func show(key string) string {
	return "a key of " + strconv.Itoa(len(key)) + " bytes, " + strconv.Quote(key[:min(20, len(key))]) + ","
}

// key is the key where no other is asked for.
const key = "a key"

// keys are those at edges: empty, of bytes 0, with such in them and at their end, of bytes that are no UTF-8, of sizes about a block's, and a long one.
var keys = []string{"", "\x00", "\x00\x00", "a\x00key", "a key\x00", "\x00a key", "\xff\x80\xc3", "\xed\xa0\x80", of(16), of(32), of(63), of(64), of(65), filled(0, 64), filled(0, 65), of(5000)}

// byTimes are numbers whose key's number, by key, can be divided by 2 just so often: told beside the program, by another one.
var byTimes = []struct {
	times int
	n     uint64
}{
	{0, 9}, {1, 1}, {2, 5}, {3, 18}, {4, 0}, {5, 65}, {6, 3}, {7, 146},
	{8, 130}, {9, 1082}, {10, 6324}, {11, 1072}, {12, 217}, {13, 34819}, {14, 12682}, {15, 54854}, {16, 19462}, {17, 333448}, {20, 1928409}, {22, 254972}, {23, 1589687},
}

// oneEach are numbers of the heights 1 to 8 by key, in order; the eighth one's key's number can be divided just 7 times, the last one's 8 times.
var oneEach = []uint64{9, 1, 5, 18, 0, 65, 3, 146, 130}

// The chapter's example.
func TestExample(t *testing.T) {
	for _, l := range [][]uint64{{0}, {9, 9}, oneEach} {
		if got, e := tower.Above(key, l, 0); !slices.Equal(got, everyPlace(l)) || e != api.OK {
			t.Errorf("Above(%v, 0) = %v, %v, want all", l, got, e)
		}
	}
}

// P15.1

func TestHeightByHand(t *testing.T) {
	for _, x := range byTimes {
		if got := tower.Height(key, x.n); got != min(x.times+1, 8) {
			t.Errorf("Height(%v) = %v, but its key's number can be divided just %v times", x.n, got, x.times)
		}
		if got := timesOf(wordOf(key, x.n)); got != x.times {
			t.Errorf("the key's number of %v can be divided %v times, want %v", x.n, got, x.times)
		}
	}
}

// Heights that were told beside the program, by another one, of some numbers by some keys.
func TestHeightsAsPrinted(t *testing.T) {
	numbers := []uint64{0, 1, 2, 3, 255, 256, 1 << 32, 1 << 63, math.MaxUint64 - 1, math.MaxUint64}
	for _, x := range []struct {
		key  string
		want []int
	}{
		{"", []int{1, 1, 2, 1, 3, 4, 2, 2, 1, 7}},
		{"\x00", []int{1, 1, 2, 1, 3, 4, 2, 2, 1, 7}},
		{"a key", []int{5, 2, 2, 7, 1, 1, 3, 3, 3, 1}},
		{"a key\x00", []int{5, 2, 2, 7, 1, 1, 3, 3, 3, 1}},
		{"\x00a key", []int{1, 1, 4, 6, 1, 1, 1, 3, 4, 3}},
		{"a\x00key", []int{1, 1, 2, 2, 1, 1, 1, 1, 2, 1}},
		{"another key", []int{1, 1, 1, 2, 1, 1, 1, 3, 1, 4}},
		{"\xff\x80\xc3", []int{3, 1, 2, 4, 1, 2, 1, 1, 2, 2}},
		{filled('k', 63), []int{2, 1, 2, 1, 1, 1, 1, 2, 1, 3}},
		{filled('k', 64), []int{3, 2, 1, 3, 4, 1, 1, 2, 1, 1}},
		{filled('k', 65), []int{2, 1, 1, 1, 1, 3, 1, 1, 1, 1}},
		{filled('k', 5000), []int{2, 3, 2, 1, 3, 1, 3, 2, 2, 1}},
	} {
		if got := tower.Heights(x.key, numbers); !slices.Equal(got, x.want) {
			t.Errorf("Heights by %v = %v, want %v", show(x.key), got, x.want)
		}
		for i, n := range numbers {
			if got := tower.Height(x.key, n); got != x.want[i] {
				t.Errorf("Height by %v of %v = %v, want %v", show(x.key), n, got, x.want[i])
			}
		}
	}
}

// The numbers 0 to 23, told so, too: each height stands among them.
func TestFirstHeightsAsPrinted(t *testing.T) {
	first := make([]uint64, 24)
	for i := range first {
		first[i] = uint64(i)
	}
	for _, x := range []struct {
		key  string
		want []int
	}{
		{"a key", []int{5, 2, 2, 7, 2, 3, 3, 2, 2, 1, 2, 1, 1, 3, 1, 1, 2, 2, 4, 1, 2, 1, 1, 1}},
		{filled('k', 63), []int{2, 1, 2, 1, 2, 1, 2, 3, 3, 2, 3, 1, 4, 4, 1, 1, 2, 2, 1, 1, 1, 8, 3, 3}},
		{filled('k', 64), []int{3, 2, 1, 3, 2, 1, 5, 1, 3, 1, 6, 1, 3, 1, 2, 1, 2, 2, 1, 3, 4, 4, 2, 4}},
		{filled('k', 65), []int{2, 1, 1, 1, 1, 1, 8, 8, 1, 1, 5, 2, 2, 3, 1, 1, 2, 1, 1, 2, 4, 1, 1, 2}},
	} {
		if got := tower.Heights(x.key, first); !slices.Equal(got, x.want) {
			t.Errorf("Heights by %v = %v, want %v", show(x.key), got, x.want)
		}
	}
}

func TestHeightAtEdges(t *testing.T) {
	for _, key := range keys {
		for _, n := range []uint64{0, 1, 2, 127, 128, 255, 256, 1<<32 - 1, 1 << 32, 1<<63 - 1, 1 << 63, math.MaxUint64 - 1, math.MaxUint64} {
			checkHeight(t, key, n)
		}
	}
}

// The same number has not the same height by each key.
func TestOneNumberByTwoKeys(t *testing.T) {
	for _, x := range []struct {
		n             uint64
		by, byAnother int
	}{
		{0, 5, 1},
		{1, 2, 1},
		{3, 7, 2},
		{math.MaxUint64, 1, 4},
	} {
		one, other := tower.Height(key, x.n), tower.Height("another key", x.n)
		if one != x.by || other != x.byAnother {
			t.Errorf("Heights of %v by two keys = %v, %v, want %v, %v", x.n, one, other, x.by, x.byAnother)
		}
	}
}

func TestHeights(t *testing.T) {
	for _, x := range []struct {
		l    []uint64
		want []int
	}{
		{nil, nil},
		{[]uint64{}, nil},
		{[]uint64{0}, []int{5}},
		{[]uint64{9}, []int{1}},
		{[]uint64{130}, []int{8}},
		{[]uint64{3, 3}, []int{7, 7}},
		{[]uint64{9, 146, 9, 146, 9}, []int{1, 8, 1, 8, 1}},
		{oneEach, []int{1, 2, 3, 4, 5, 6, 7, 8, 8}},
	} {
		if got := tower.Heights(key, x.l); !slices.Equal(got, x.want) {
			t.Errorf("Heights(%v) = %v, want %v", x.l, got, x.want)
		}
	}
	for _, key := range keys {
		for _, l := range lists() {
			checkList(t, key, l)
		}
	}
}

// lists are those at edges: of none, one, the same number more than once, and many, in each order.
func lists() [][]uint64 {
	falling := slices.Clone(oneEach)
	slices.Reverse(falling)
	many := make([]uint64, 70)
	for i := range many {
		many[i] = uint64(i * i)
	}
	return [][]uint64{nil, {}, {0}, {1}, {math.MaxUint64}, {7, 7}, {0, 0, 0}, {math.MaxUint64, 0, math.MaxUint64}, oneEach, falling, many}
}

// P15.2

func TestAboveByHand(t *testing.T) {
	for _, x := range []struct {
		what  string
		l     []uint64
		level int
		want  []int
	}{
		{"a nil list", nil, 0, nil},
		{"a nil list", nil, 8, nil},
		{"an empty list", []uint64{}, 0, nil},
		{"an empty list", []uint64{}, 7, nil},
		{"all", []uint64{9, 1, 9}, 0, []int{0, 1, 2}},
		{"all", []uint64{1, 5, 146}, 1, []int{0, 1, 2}},
		{"all", []uint64{146, 130, 217}, 7, []int{0, 1, 2}},
		{"none", []uint64{9, 9, 9}, 1, nil},
		{"none", []uint64{3, 65, 3}, 7, nil},
		{"none", []uint64{146, 130, 217}, 8, nil},
		{"the first alone", []uint64{3, 65, 0}, 6, []int{0}},
		{"the first alone", []uint64{130, 3, 3}, 7, []int{0}},
		{"the last alone", []uint64{9, 9, 1}, 1, []int{2}},
		{"the last alone", []uint64{3, 3, 146}, 7, []int{2}},
		{"some", []uint64{9, 18, 1, 0, 5}, 3, []int{1, 3}},
		{"some", oneEach, 4, []int{4, 5, 6, 7, 8}},
		{"some", oneEach, 7, []int{7, 8}},
		{"the same twice", []uint64{3, 3}, 6, []int{0, 1}},
		{"the same twice", []uint64{3, 3}, 7, nil},
		{"the same twice", []uint64{9, 146, 9, 146}, 5, []int{1, 3}},
	} {
		if got, e := tower.Above(key, x.l, x.level); !slices.Equal(got, x.want) || e != api.OK {
			t.Errorf("%v: Above(%v, %v) = %v, %v, want %v", x.what, x.l, x.level, got, e, x.want)
		}
	}
}

// A number of each height is above each level below that, and not above it or a higher one.
func TestAboveOfEachHeightAndLevel(t *testing.T) {
	for _, x := range byTimes {
		for level := 0; level <= 8; level++ {
			var want []int
			if level < min(x.times+1, 8) {
				want = []int{0}
			}
			if got, e := tower.Above(key, []uint64{x.n}, level); !slices.Equal(got, want) || e != api.OK {
				t.Errorf("Above(%v, %v) = %v, %v, want %v", x.n, level, got, e, want)
			}
		}
	}
}

func TestLevelsThatAreNone(t *testing.T) {
	for _, level := range []int{math.MinInt, math.MinInt + 1, math.MinInt + 8, math.MinInt32, -1 << 32, -9, -8, -7, -2, -1, 9, 10, 15, 16, 64, 256, 257, 1 << 16, 1 << 32, 1<<32 + 1, 1<<32 + 8, math.MaxInt - 8, math.MaxInt - 1, math.MaxInt} {
		for _, l := range lists() {
			checkRange(t, key, l, level)
			checkRange(t, "", l, level)
		}
	}
	for _, level := range []int{0, 1, 7, 8} {
		for _, l := range [][]uint64{nil, {}} {
			if got, e := tower.Above(key, l, level); len(got) != 0 || e != api.OK {
				t.Errorf("Above of none, %v = %v, %v", level, got, e)
			}
		}
	}
}

// P15.3 of each list of up to four of three numbers: of the least height, of one between, and of the greatest.
func TestEachSmallList(t *testing.T) {
	var see func(l []uint64)
	see = func(l []uint64) {
		checkList(t, key, l)
		if len(l) == 4 {
			return
		}
		for _, n := range []uint64{9, 18, 130} {
			see(append(slices.Clone(l), n))
		}
	}
	see(nil)
}

// R4: no call changes the list that it was handed, nor what stands behind its end; and an answer's list is nobody else's.
func TestListsAreNotChangedAndNotShared(t *testing.T) {
	want := []uint64{130, 9, 3, 9, 146}
	behind := []uint64{1, 2, 3}
	for name, call := range map[string]func(l []uint64) []int{
		"Heights":        func(l []uint64) []int { return tower.Heights(key, l) },
		"Above all":      func(l []uint64) []int { places, _ := tower.Above(key, l, 0); return places },
		"Above some":     func(l []uint64) []int { places, _ := tower.Above(key, l, 5); return places },
		"Above none":     func(l []uint64) []int { places, _ := tower.Above(key, l, 8); return places },
		"Above no level": func(l []uint64) []int { places, _ := tower.Above(key, l, 9); return places },
	} {
		for many := range len(want) + 1 {
			memory := slices.Concat(want[:many], behind)
			got := call(memory[:many])
			if !slices.Equal(memory, slices.Concat(want[:many], behind)) {
				t.Errorf("%v of %v changed them: %v", name, want[:many], memory)
			}
			was := slices.Clone(got)
			again := call(memory[:many])
			clear(got[:cap(got)])
			if !slices.Equal(again, was) {
				t.Errorf("%v of %v: %v, and then %v", name, want[:many], was, again)
			}
		}
	}
}
