package label_test

import (
	"crypto/hmac"
	"crypto/sha256"
	"encoding/binary"
	"fmt"
	"math"
	"math/bits"
	"math/rand"
	"slices"
	"strings"
	"testing"

	"saltus/api"
	"saltus/label"
	"saltus/skip"
)

// The tests here hold the calls against the chapter's words told in another way: sums and heights by the library's SHA-256 and HMAC; and a label from its own level down, by the places whose labels it is joined of.

// head is the place that stands for the head.
const head = -1

// sum is what a text's sum should be.
func sum(s string) string {
	b := sha256.Sum256([]byte(s))
	return string(b[:])
}

// number are a number's bytes.
func number(n uint64) string { return string(binary.LittleEndian.AppendUint64(nil, n)) }

// leafOf is what an item's label should be.
func leafOf(x api.Item) string {
	return sum("\x00" + number(x.Key) + string([]byte{byte(len(x.Val)), byte(len(x.Val) >> 8)}) + x.Val)
}

// height is what a number's height should be.
func height(key string, n uint64) int {
	h := hmac.New(sha256.New, []byte(key))
	h.Write([]byte(number(n)))
	return min(bits.TrailingZeros64(binary.LittleEndian.Uint64(h.Sum(nil))), 7) + 1
}

// heightsOf are what a list's items' heights should be.
func heightsOf(key string, l []api.Item) []int {
	var heights []int
	for _, x := range l {
		heights = append(heights, height(key, x.Key))
	}
	return heights
}

// labelOf is what the label of the head, or of an item's place, should be on a level: joined of its own on the level below, and there of all places behind it that are not higher than the level, up to the first one that is.
func labelOf(l []api.Item, heights []int, level, place int) string {
	switch {
	case level == 0 && place == head:
		return sum("\x01")
	case level == 0:
		return leafOf(l[place])
	}
	text := "\x02" + number(uint64(level)) + labelOf(l, heights, level-1, place)
	for at := place + 1; at < len(l) && heights[at] <= level; at++ {
		if heights[at] == level {
			text += labelOf(l, heights, level-1, at)
		}
	}
	return sum(text)
}

// rowOf is what the row of a level should be.
func rowOf(key string, l []api.Item, level int) []string {
	heights := heightsOf(key, l)
	row := []string{labelOf(l, heights, level, head)}
	for place := range l {
		if heights[place] > level {
			row = append(row, labelOf(l, heights, level, place))
		}
	}
	return row
}

// mayBe tells whether a list may be: no two items, wherever they stand, fall or are of one number.
func mayBe(l []api.Item) bool {
	for i, x := range l {
		if len(x.Val) > 64 || i >= 64 {
			return false
		}
		for _, y := range l[:i] {
			if y.Key >= x.Key {
				return false
			}
		}
	}
	return true
}

// show is a list as text, for what a test tells; a long one by its beginning.
func show(l []api.Item) string {
	s := fmt.Sprintf("%v items %v", len(l), l)
	return s[:min(len(s), 400)]
}

// told are labels as text, by the first bytes of each.
func told(labels ...string) string {
	var b strings.Builder
	for _, s := range labels {
		fmt.Fprintf(&b, "%.8x of %v bytes, ", s, len(s))
	}
	return b.String()
}

// checkLeaf holds P17.1's Leaf; and P17.3: a label has 32 bytes.
func checkLeaf(t *testing.T, x api.Item) {
	t.Helper()
	got, e := label.Leaf(x)
	if len(x.Val) > 64 {
		if got != "" || e != api.ErrSize {
			t.Errorf("Leaf of %v and %v bytes = %v, %v, want ErrSize", x.Key, len(x.Val), told(got), e)
		}
		return
	}
	if want := leafOf(x); got != want || len(got) != 32 || e != api.OK {
		t.Errorf("Leaf of %v and %q = %v, %v, want %v", x.Key, x.Val, told(got), e, told(want))
	}
}

// checkJoin holds P17.1's Join; and P17.3: a label has 32 bytes.
func checkJoin(t *testing.T, level int, l []string) {
	t.Helper()
	want, why := "", api.OK
	switch {
	case level < 1 || level > 8:
		why = api.ErrRange
	case len(l) == 0:
		why = api.ErrSize
	default:
		want = "\x02" + number(uint64(level))
	}
	for _, s := range l {
		if len(s) != 32 && why == api.OK {
			why = api.ErrSize
		}
		want += s
	}
	if why == api.OK {
		want = sum(want)
	} else {
		want = ""
	}
	got, e := label.Join(level, l)
	if got != want || e != why || e == api.OK && len(got) != 32 {
		t.Errorf("Join on %v of %v labels = %v, %v, want %v, %v", level, len(l), told(got), e, told(want), why)
	}
}

// checkNoRow holds that Row of a list, on a level, tells an error, and nothing beside it.
func checkNoRow(t *testing.T, key string, l []api.Item, level int, why api.Errno) {
	t.Helper()
	if row, e := label.Row(key, l, level); len(row) != 0 || e != why {
		t.Errorf("Row by %.20q of %v, level %v = %v, %v, want %v", key, show(l), level, told(row...), e, why)
	}
}

// noLevels are numbers that are no levels of rows.
var noLevels = []int{-1, 9, -2, -8, -9, 10, 16, 256, 257, 1 << 32, 1<<32 + 1, 1<<32 + 8, -1 << 32, math.MinInt32, math.MaxInt32, math.MinInt, math.MinInt + 8, math.MaxInt - 7, math.MaxInt}

// checkIsArg holds that each call of a list that may not be tells ErrArg, whatever the level is.
func checkIsArg(t *testing.T, key string, l []api.Item) {
	t.Helper()
	for level := range 9 {
		checkNoRow(t, key, l, level, api.ErrArg)
	}
	for _, level := range noLevels {
		checkNoRow(t, key, l, level, api.ErrArg)
	}
	if got, e := label.Root(key, l); got != "" || e != api.ErrArg {
		t.Errorf("Root by %.20q of %v = %v, %v, want ErrArg", key, show(l), told(got), e)
	}
}

// checkList holds P17.2 of a list, whether it may be or not; and P17.3: labels have 32 bytes, and rows get no longer.
func checkList(t *testing.T, key string, l []api.Item) {
	t.Helper()
	if !mayBe(l) {
		checkIsArg(t, key, l)
		return
	}
	longest := len(l) + 1
	for level := range 9 {
		want := rowOf(key, l, level)
		got, e := label.Row(key, l, level)
		if !slices.Equal(got, want) || e != api.OK {
			t.Errorf("Row by %.20q of %v, level %v = %v, %v, want %v", key, show(l), level, told(got...), e, told(want...))
		}
		if len(got) > longest || slices.ContainsFunc(got, func(s string) bool { return len(s) != 32 }) {
			t.Errorf("Row by %.20q of %v, level %v = %v, behind one of %v", key, show(l), level, told(got...), longest)
		}
		longest = len(got)
	}
	checkRoot(t, key, l)
	for _, level := range noLevels {
		checkNoRow(t, key, l, level, api.ErrRange)
	}
}

// checkRoot holds P17.2's Root of a list that may be: the one label of the row of level 8.
func checkRoot(t *testing.T, key string, l []api.Item) {
	t.Helper()
	want := labelOf(l, heightsOf(key, l), 8, head)
	if got, e := label.Root(key, l); got != want || len(got) != 32 || e != api.OK {
		t.Errorf("Root by %.20q of %v = %v, %v, want %v", key, show(l), told(got), e, told(want))
	}
	if last, e := label.Row(key, l, 8); len(last) != 1 || last[0] != want || e != api.OK {
		t.Errorf("Row by %.20q of %v, level 8 = %v, %v, want %v", key, show(l), told(last...), e, told(want))
	}
}

// eachList has see each list of up to so many of some items, in each order, each of them as often as may be.
func eachList(items []api.Item, many int, ahead []api.Item, see func(l []api.Item)) {
	see(ahead)
	if many == 0 {
		return
	}
	for _, x := range items {
		eachList(items, many-1, append(slices.Clone(ahead), x), see)
	}
}

// Each list of up to three of five items, those that may be, and those that may not, since their numbers fall or stand twice.
func TestEachSmallList(t *testing.T) {
	eachList([]api.Item{item(0), item(9), item(18), item(130), item(146)}, 3, nil, func(l []api.Item) {
		checkList(t, key, l)
	})
}

// eachOf has see each list of some numbers, of each of which there is no item, or one of either Val.
func eachOf(numbers []uint64, ahead []api.Item, see func(l []api.Item)) {
	if len(numbers) == 0 {
		see(ahead)
		return
	}
	eachOf(numbers[1:], ahead, see)
	for _, val := range []string{"", "a"} {
		eachOf(numbers[1:], append(slices.Clone(ahead), api.Item{Key: numbers[0], Val: val}), see)
	}
}

// Of all lists of five numbers, of the heights 5, 1, 4, 8 and 8, no two have one label: with another Key, another Val, an item more or less it is another one.
func TestEachListHasAnotherLabel(t *testing.T) {
	for _, key := range []string{key, "", "another key"} {
		of := map[string]string{}
		eachOf([]uint64{0, 9, 18, 130, 146}, nil, func(l []api.Item) {
			checkRoot(t, key, l)
			root, _ := label.Root(key, l)
			if other, is := of[root]; is {
				t.Errorf("by %q %v and %v have one label", key, show(l), other)
			}
			of[root] = show(l)
		})
		if len(of) != 3*3*3*3*3 {
			t.Errorf("by %q %v labels", key, len(of))
		}
	}
}

// randomList is a list that may be, of numbers of all sizes.
func randomList(r *rand.Rand, many int) []api.Item {
	var l []api.Item
	for len(l) < many {
		l, _ = skip.Put(l, api.Item{Key: r.Uint64() >> r.Intn(64), Val: text(r.Intn(65))})
	}
	return l
}

// Lists at random, by keys at random, some of them changed so that they may not be.
func TestListsAtRandom(t *testing.T) {
	for seed := range int64(60) {
		r := rand.New(rand.NewSource(seed))
		key := string([]byte{byte(seed)}) + text(r.Intn(100))
		l := randomList(r, r.Intn(20))
		checkList(t, key, l)
		if len(l) > 1 {
			i, j := r.Intn(len(l)), r.Intn(len(l))
			l[i], l[j] = l[j], l[i]
			checkList(t, key, l)
			l[i] = l[j]
			checkList(t, key, l)
		}
	}
	r := rand.New(rand.NewSource(60))
	for _, many := range []int{63, 64, 64} {
		checkList(t, key, randomList(r, many))
		checkList(t, "", randomList(r, many))
	}
}

// P17.3: a list's label, and its rows, do not hang on the order in which items were put, nor on those that were put and dropped on the way, or put twice.
func TestLabelDoesNotHangOnHowAListWasMade(t *testing.T) {
	r := rand.New(rand.NewSource(1))
	for _, many := range []int{1, 2, 3, 10, 40} {
		want := randomList(r, many)
		for range 6 {
			checkSame(t, want, madeAnew(t, r, want))
		}
	}
}

// madeAnew is a list made of a list's items at random: in any order, some of them put twice, others put and dropped on the way.
func madeAnew(t *testing.T, r *rand.Rand, want []api.Item) []api.Item {
	t.Helper()
	var l []api.Item
	for _, i := range r.Perm(len(want)) {
		if r.Intn(2) == 0 {
			l = put(t, l, api.Item{Key: want[i].Key, Val: "another"})
		}
		other := api.Item{Key: want[i].Key + 1, Val: "other"}
		drops := r.Intn(2) == 0 && !slices.ContainsFunc(l, func(x api.Item) bool { return x.Key == other.Key })
		if drops {
			l = put(t, l, other)
		}
		l = put(t, l, want[i])
		if drops {
			l = drop(t, l, other.Key)
		}
	}
	return l
}

// checkSame holds that two lists have the same rows, and one label, by several keys.
func checkSame(t *testing.T, a, b []api.Item) {
	t.Helper()
	for _, key := range []string{key, "", "another key"} {
		for level := range 9 {
			one, _ := label.Row(key, a, level)
			other, e := label.Row(key, b, level)
			if !slices.Equal(one, other) || e != api.OK {
				t.Fatalf("Row by %q, level %v, of %v, and of %v = %v, %v, %v", key, level, show(a), show(b), told(one...), told(other...), e)
			}
		}
		one, _ := label.Root(key, a)
		if other, e := label.Root(key, b); one != other || e != api.OK {
			t.Fatalf("Root by %q of %v, and of %v = %v, %v, %v", key, show(a), show(b), told(one), told(other), e)
		}
	}
}

// put is a list with an item more.
func put(t *testing.T, l []api.Item, x api.Item) []api.Item {
	t.Helper()
	got, e := skip.Put(l, x)
	if e != api.OK {
		t.Fatalf("Put of %v to %v = %v", x.Key, show(l), e)
	}
	return got
}

// drop is a list without an item.
func drop(t *testing.T, l []api.Item, k uint64) []api.Item {
	t.Helper()
	got, e := skip.Drop(l, k)
	if e != api.OK {
		t.Fatalf("Drop of %v from %v = %v", k, show(l), e)
	}
	return got
}

// P1: no call panics at any arguments, and all are as told here.
func FuzzLabel(f *testing.F) {
	f.Add("", "", uint64(0), "", uint64(0), 0)
	f.Add("a key", "\x03\x05\x09", uint64(6), "a", uint64(1), 1)
	f.Add("another key", "\x09\x05", uint64(9), "a", uint64(1<<63), 8)
	f.Add("a key", "\x00\x82\x92", uint64(146), text(65), uint64(1), -1)
	f.Add("\xff", text(65), uint64(1<<64-1), text(64), uint64(1<<32), 9)
	f.Add("a key", "\x01\x02\x03\x04", uint64(1<<64-1), text(32), uint64(1<<32), 3)
	f.Fuzz(func(t *testing.T, key, bytes string, k uint64, val string, times uint64, level int) {
		l := make([]api.Item, 0, len(bytes))
		labels := make([]string, 0, len(bytes))
		for i := range len(bytes) {
			l = append(l, api.Item{Key: uint64(bytes[i]) * times, Val: val[:min(len(val), i)]})
			labels = append(labels, val)
		}
		checkLeaf(t, api.Item{Key: k, Val: val})
		checkJoin(t, level, labels)
		checkJoin(t, level, slices.Repeat([]string{leafOf(api.Item{Key: k})}, len(bytes)))
		checkList(t, key, l)
	})
}
