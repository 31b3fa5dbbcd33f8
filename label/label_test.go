package label_test

import (
	"encoding/hex"
	"math"
	"slices"
	"strconv"
	"strings"
	"testing"

	"saltus/api"
	"saltus/label"
)

// key is the key where no other is asked for.
const key = "a key"

// text is a text of so many bytes.
func text(many int) string { return strings.Repeat("t", many) }

// item is an item of a number, and of a text that tells the number.
func item(n uint64) api.Item { return api.Item{Key: n, Val: "of " + strconv.FormatUint(n, 10)} }

// items are items of some numbers, in order.
func items(numbers ...uint64) []api.Item {
	var l []api.Item
	for _, n := range numbers {
		l = append(l, item(n))
	}
	return l
}

// rising is a list of so many items, the first one of a number, each next one's more by a step.
func rising(many int, first, step uint64) []api.Item {
	l := make([]api.Item, many)
	for i := range l {
		l[i] = item(first + uint64(i)*step)
	}
	return l
}

// with is a list with another Val at a place.
func with(l []api.Item, at int, val string) []api.Item {
	l = slices.Clone(l)
	l[at].Val = val
	return l
}

// some are so many labels, no two of them the same.
func some(many int) []string {
	l := make([]string, many)
	for i := range l {
		l[i] = leafOf(item(uint64(i)))
	}
	return l
}

// of is some labels with another text at a place.
func of(l []string, at int, s string) []string {
	l = slices.Clone(l)
	l[at] = s
	return l
}

// unhex is a text that is told by its bytes' digits.
func unhex(t *testing.T, s string) string {
	t.Helper()
	b, err := hex.DecodeString(s)
	if err != nil {
		t.Fatal(err)
	}
	return string(b)
}

// heights are nine numbers and their heights by key, told beside the program, by another one.
var heights = []struct {
	n      uint64
	height int
}{{0, 5}, {1, 2}, {3, 7}, {5, 3}, {9, 1}, {18, 4}, {65, 6}, {130, 8}, {146, 8}}

// nine is the list of these.
func nine() []api.Item {
	var l []api.Item
	for _, x := range heights {
		l = append(l, item(x.n))
	}
	return l
}

// cubes are 64 items.
func cubes() []api.Item {
	l := make([]api.Item, 64)
	for i := range l {
		l[i] = item(uint64(i * i * i))
	}
	return l
}

// edges are items of numbers at edges.
func edges() []api.Item {
	return items(0, 1, 255, 256, 1<<32-1, 1<<32, 1<<63-1, 1<<63, math.MaxUint64-1, math.MaxUint64)
}

// The chapter's example.
func TestExample(t *testing.T) {
	for _, l := range [][]api.Item{nil, {}} {
		for _, key := range []string{"", "a key", "another key"} {
			if row, e := label.Row(key, l, 0); len(row) != 1 || e != api.OK {
				t.Errorf("Row of none, level 0 = %v, %v, want one label", told(row...), e)
			}
		}
	}
}

// P17.1

// Labels that were told beside the program, by another one.
func TestLeafAsPrinted(t *testing.T) {
	for _, x := range []struct {
		x    api.Item
		want string
	}{
		{api.Item{}, "71b6c1d53832f789a7f2435a7c629245fa3761ad8487775ebf4957330213a706"},
		{api.Item{Key: math.MaxUint64}, "004dd8caf82f592c55e91568369d652b86a009de04b4037a28769492dca1e8a9"},
		{api.Item{Val: "a"}, "d91e3ad6c69f86be4e91f25d328ff031ec79f4db635fb99e690ab231f84c9ec9"},
		{item(3), "d4d1548a4917f6ad462edfb70dafb1529ebbe624e2c822f91e1bd24b3d986a47"},
		{api.Item{Key: 258, Val: "ab"}, "c46b494b37339a52db0c464f6a8e2b0eae25328ba6fa106071d48e66f6d664b4"},
		{api.Item{Val: text(64)}, "602d35fb8e6dc190578e849268fc73c2032f949056164be133198abf26664b7a"},
		{api.Item{Key: math.MaxUint64, Val: text(64)}, "86e0439d27ec63871d46e72482f6e6c1763ad3b7dece4c1c37ce4fc21fbc3f55"},
		{api.Item{Key: 1 << 63, Val: "\xff\x00\xfe"}, "4619a6eebc9058200376a9c4cdf82700542087ff10c0f9b4552a8ba622e89c55"},
		{api.Item{Key: 1, Val: "\x00"}, "e021c3dd1487ac8a594c06934c995eac7cd0ad9772cd5c0d5a3a17ca61f0907d"},
		{api.Item{Key: 0x0102030405060708, Val: text(63)}, "8ad0faa67dc2464064fdada64efd5ea146f00d3af3c670bf688b32486563da57"},
	} {
		if got, e := label.Leaf(x.x); got != unhex(t, x.want) || e != api.OK {
			t.Errorf("Leaf of %v and %q = %x, %v, want %v", x.x.Key, x.x.Val, got, e, x.want)
		}
		checkLeaf(t, x.x)
	}
}

func TestLeafOfValsOfEachSize(t *testing.T) {
	sizes := []int{66, 127, 128, 255, 256, 257, 320, 4095, 4096, 4097, 1 << 16, 1<<16 + 1}
	for size := range 66 {
		sizes = append(sizes, size)
	}
	for _, size := range sizes {
		for _, key := range []uint64{0, 1, 1<<63 - 1, 1 << 63, math.MaxUint64} {
			for _, b := range []string{"t", "\x00", "\xff"} {
				checkLeaf(t, api.Item{Key: key, Val: strings.Repeat(b, size)})
			}
		}
	}
	if _, e := label.Leaf(api.Item{Val: text(64)}); e != api.OK {
		t.Errorf("Leaf of 64 bytes = %v", e)
	}
	if got, e := label.Leaf(api.Item{Val: text(65)}); got != "" || e != api.ErrSize {
		t.Errorf("Leaf of 65 bytes = %v, %v, want ErrSize", told(got), e)
	}
}

// Each of a Key's bits counts, and each byte of a Val.
func TestLeafOfEachBitAndByte(t *testing.T) {
	for bit := range 64 {
		checkLeaf(t, api.Item{Key: 1 << bit, Val: "a"})
		checkLeaf(t, api.Item{Key: ^uint64(1 << bit), Val: "a"})
	}
	for b := range 256 {
		checkLeaf(t, api.Item{Key: 7, Val: string([]byte{byte(b)})})
		checkLeaf(t, api.Item{Key: 7, Val: text(63) + string([]byte{byte(b)})})
	}
}

// Labels that were told beside the program, by another one.
func TestJoinAsPrinted(t *testing.T) {
	var up, down [32]byte
	for i := range up {
		up[i], down[i] = byte(i), byte(255-i)
	}
	a, b, c := string(up[:]), strings.Repeat("b", 32), string(down[:])
	for _, x := range []struct {
		level int
		l     []string
		want  string
	}{
		{1, []string{a}, "c3e78325b2ac9bd5b204210e582ced54151710d08d2fea1ef4e481886a6aab92"},
		{8, []string{a}, "82a502379fe67bef9cfc04d3988d54c07aa6af2161d604be6c0028fd5fdd7e56"},
		{1, []string{a, b}, "1685e2b0fa306c508b126e06946258d00f59bac62e96fc8aeb2ba9ac64b427e3"},
		{1, []string{b, a}, "cc8a403723bd6a8a74090dc9a0d14db2331b3d8e359d671b4bf7ae77f8066b58"},
		{8, []string{a, b, c}, "50515711bee4588ec086c49f553e055ebd94923d3fff682f316710b89110c047"},
		{2, []string{a, a}, "3c3331333385f4bca7bdbabce9da54e5e0d26dde9f58530cb02a7748aeee0007"},
		{5, []string{strings.Repeat("\x00", 32)}, "5405a21963060c613efd3e675b50bc287dfb5048115ad5bb5f3fb17c67db4386"},
		{3, slices.Repeat([]string{a, b, c}, 22), "d34f9b140c97373cce35be59444bc76aab1fa0f23aa0e19e26d1bf5ece84bea4"},
	} {
		if got, e := label.Join(x.level, x.l); got != unhex(t, x.want) || e != api.OK {
			t.Errorf("Join on %v of %v labels = %x, %v, want %v", x.level, len(x.l), got, e, x.want)
		}
		checkJoin(t, x.level, x.l)
	}
}

func TestJoinOfEachNumberOfLabelsOnEachLevel(t *testing.T) {
	for level := -1; level <= 9; level++ {
		for _, many := range []int{0, 1, 2, 3, 4, 63, 64, 65, 66, 300} {
			checkJoin(t, level, some(many))
			checkJoin(t, level, slices.Repeat(some(1), many))
		}
		checkJoin(t, level, nil)
	}
}

func TestJoinOnLevelsThatAreNone(t *testing.T) {
	lists := [][]string{nil, {}, {""}, {text(31)}, {text(33)}, some(1), some(3), of(some(3), 2, text(31))}
	for _, level := range append([]int{0}, noLevels...) {
		for _, l := range lists {
			if got, e := label.Join(level, l); got != "" || e != api.ErrRange {
				t.Errorf("Join on %v of %v labels = %v, %v, want ErrRange", level, len(l), told(got), e)
			}
		}
	}
}

func TestJoinOfLabelsThatAreNone(t *testing.T) {
	lists := [][]string{nil, {}}
	for _, size := range []int{0, 1, 2, 16, 30, 31, 33, 34, 48, 63, 64, 65, 96, 256, 288, 4096, 1 << 16} {
		s := text(size)
		lists = append(lists, []string{s}, []string{s, s}, of(some(3), 0, s), of(some(3), 1, s), of(some(3), 2, s), of(some(66), 0, s), of(some(66), 65, s))
	}
	// Of these, all together have as many bytes as labels have.
	lists = append(lists, []string{text(31), text(33)}, []string{text(64), ""}, []string{"", text(32)}, []string{text(32), ""}, strings.Split(text(32), ""))
	for level := 1; level <= 8; level++ {
		for _, l := range lists {
			if got, e := label.Join(level, l); got != "" || e != api.ErrSize {
				t.Errorf("Join on %v of %q = %v, %v, want ErrSize", level, l, told(got), e)
			}
			checkJoin(t, level, l)
		}
		for at := range 5 {
			checkJoin(t, level, of(some(5), at, text(32)))
			checkJoin(t, level, of(some(5), at, text(31)))
			checkJoin(t, level, of(some(5), at, text(33)))
		}
	}
}

// No item's label, no head's, and no joined ones are the same, though the bytes behind what they begin with are.
func TestLabelsOfThreeKindsAreOthers(t *testing.T) {
	first, _ := label.Row(key, nil, 0)
	leaf, _ := label.Leaf(api.Item{Key: 1})
	seen := map[string]bool{first[0]: true, leaf: true}
	for level := 1; level <= 8; level++ {
		for _, l := range [][]string{first, {leaf}, {first[0], leaf}, {leaf, first[0]}, {leaf, leaf}} {
			got, _ := label.Join(level, l)
			if seen[got] {
				t.Errorf("Join on %v of %v = %v, once more", level, told(l...), told(got))
			}
			seen[got] = true
		}
	}
}

// P17.2

// The head's label was told beside the program, by another one.
func TestRowOfLevel0IsTheHeadsLabelAndTheItems(t *testing.T) {
	head := unhex(t, "4bf5122f344554c53bde2ebb8cd2b7e3d1600ad631c385a5d7cce23c7785459a")
	for _, l := range [][]api.Item{nil, {}, {{}}, items(0), items(130), items(3, 5, 9), nine(), edges(), cubes(), with(items(3, 5, 9), 1, text(64)), with(items(3, 5, 9), 2, "")} {
		want := []string{head}
		for _, x := range l {
			leaf, e := label.Leaf(x)
			if e != api.OK {
				t.Fatal(x, e)
			}
			want = append(want, leaf)
		}
		for _, key := range []string{"", key, "another key"} {
			if got, e := label.Row(key, l, 0); !slices.Equal(got, want) || e != api.OK {
				t.Errorf("Row by %q of %v, level 0 = %v, %v, want %v", key, show(l), told(got...), e, told(want...))
			}
		}
	}
}

// grouped are lists, and of how many labels of the level below those of the levels 1 to 8 are joined, by key: told by hand, from their items' heights.
var grouped = []struct {
	what    string
	heights []int
	l       []api.Item
	groups  [8][]int
}{
	{"none", nil, nil, [8][]int{{1}, {1}, {1}, {1}, {1}, {1}, {1}, {1}}},
	{"one of 1", []int{1}, items(9), [8][]int{{2}, {1}, {1}, {1}, {1}, {1}, {1}, {1}}},
	{"one of 2", []int{2}, items(1), [8][]int{{1, 1}, {2}, {1}, {1}, {1}, {1}, {1}, {1}}},
	{"one of 3", []int{3}, items(5), [8][]int{{1, 1}, {1, 1}, {2}, {1}, {1}, {1}, {1}, {1}}},
	{"one of 4", []int{4}, items(18), [8][]int{{1, 1}, {1, 1}, {1, 1}, {2}, {1}, {1}, {1}, {1}}},
	{"one of 5", []int{5}, items(0), [8][]int{{1, 1}, {1, 1}, {1, 1}, {1, 1}, {2}, {1}, {1}, {1}}},
	{"one of 6", []int{6}, items(65), [8][]int{{1, 1}, {1, 1}, {1, 1}, {1, 1}, {1, 1}, {2}, {1}, {1}}},
	{"one of 7", []int{7}, items(3), [8][]int{{1, 1}, {1, 1}, {1, 1}, {1, 1}, {1, 1}, {1, 1}, {2}, {1}}},
	{"one of 8", []int{8}, items(130), [8][]int{{1, 1}, {1, 1}, {1, 1}, {1, 1}, {1, 1}, {1, 1}, {1, 1}, {2}}},
	{"nine", []int{5, 2, 7, 3, 1, 4, 6, 8, 8}, nine(), [8][]int{
		{1, 1, 1, 1, 2, 1, 1, 1, 1},
		{1, 2, 1, 1, 1, 1, 1, 1},
		{1, 1, 2, 1, 1, 1, 1},
		{1, 1, 2, 1, 1, 1},
		{2, 1, 1, 1, 1},
		{1, 2, 1, 1},
		{2, 1, 1},
		{3},
	}},
	{"falling", []int{8, 7, 6, 5, 4, 3, 2, 1}, items(130, 158, 203, 212, 227, 233, 236, 237), [8][]int{
		{1, 1, 1, 1, 1, 1, 1, 2}, {1, 1, 1, 1, 1, 1, 2}, {1, 1, 1, 1, 1, 2}, {1, 1, 1, 1, 2}, {1, 1, 1, 2}, {1, 1, 2}, {1, 2}, {2},
	}},
	{"rising", []int{1, 2, 3, 4, 5, 6, 7, 8}, items(9, 10, 13, 18, 78, 103, 158, 217), [8][]int{
		{2, 1, 1, 1, 1, 1, 1, 1}, {2, 1, 1, 1, 1, 1, 1}, {2, 1, 1, 1, 1, 1}, {2, 1, 1, 1, 1}, {2, 1, 1, 1}, {2, 1, 1}, {2, 1}, {2},
	}},
	{"8 between others", []int{1, 8, 2, 8, 3, 8, 1}, items(9, 130, 148, 217, 219, 253, 255), [8][]int{
		{2, 1, 1, 1, 1, 2}, {1, 2, 1, 1, 1}, {1, 1, 2, 1}, {1, 1, 1, 1}, {1, 1, 1, 1}, {1, 1, 1, 1}, {1, 1, 1, 1}, {4},
	}},
	{"all of 1", []int{1, 1, 1, 1, 1, 1}, items(9, 11, 12, 14, 15, 19), [8][]int{{7}, {1}, {1}, {1}, {1}, {1}, {1}, {1}}},
	{"all of 8", []int{8, 8, 8, 8}, items(130, 146, 217, 253), [8][]int{
		{1, 1, 1, 1, 1}, {1, 1, 1, 1, 1}, {1, 1, 1, 1, 1}, {1, 1, 1, 1, 1}, {1, 1, 1, 1, 1}, {1, 1, 1, 1, 1}, {1, 1, 1, 1, 1}, {5},
	}},
}

// Each row is made of the one below by Join, of so many labels each.
func TestRowsByHand(t *testing.T) {
	for _, x := range grouped {
		if got := heightsOf(key, x.l); !slices.Equal(got, x.heights) {
			t.Errorf("%v: heights %v, want %v", x.what, got, x.heights)
		}
		below, e := label.Row(key, x.l, 0)
		if len(below) != len(x.l)+1 || e != api.OK {
			t.Errorf("%v: Row, level 0 = %v, %v", x.what, told(below...), e)
		}
		for i, groups := range x.groups {
			level := i + 1
			want := joinedBy(t, level, below, groups)
			got, e := label.Row(key, x.l, level)
			if !slices.Equal(got, want) || e != api.OK {
				t.Fatalf("%v: Row, level %v = %v, %v, want %v", x.what, level, told(got...), e, told(want...))
			}
			below = got
		}
		if root, e := label.Root(key, x.l); root != below[0] || e != api.OK {
			t.Errorf("%v: Root = %v, %v, want %v", x.what, told(root), e, told(below[0]))
		}
		checkList(t, key, x.l)
	}
}

// joinedBy are labels joined on a level, the first ones of them so many, and so on.
func joinedBy(t *testing.T, level int, labels []string, groups []int) []string {
	t.Helper()
	var row []string
	for _, many := range groups {
		joined, e := label.Join(level, labels[:many])
		if e != api.OK {
			t.Fatalf("Join on %v of %v = %v", level, many, e)
		}
		row = append(row, joined)
		labels = labels[many:]
	}
	if len(labels) != 0 {
		t.Fatalf("level %v: %v labels are left", level, len(labels))
	}
	return row
}

// Lists' labels, and how many labels the rows of the levels 0 to 8 have, that were told beside the program, by another one.
func TestRootAsPrinted(t *testing.T) {
	for _, x := range []struct {
		key  string
		l    []api.Item
		many []int
		want string
	}{
		{"", nil, []int{1, 1, 1, 1, 1, 1, 1, 1, 1}, "3b799246897c8bea748f3e170d925c2c528ffba0b675deed7a62ef3bf8abf930"},
		{"a key", nil, []int{1, 1, 1, 1, 1, 1, 1, 1, 1}, "3b799246897c8bea748f3e170d925c2c528ffba0b675deed7a62ef3bf8abf930"},
		{"a key", []api.Item{}, []int{1, 1, 1, 1, 1, 1, 1, 1, 1}, "3b799246897c8bea748f3e170d925c2c528ffba0b675deed7a62ef3bf8abf930"},
		{"another key", nil, []int{1, 1, 1, 1, 1, 1, 1, 1, 1}, "3b799246897c8bea748f3e170d925c2c528ffba0b675deed7a62ef3bf8abf930"},
		{"", items(0), []int{2, 1, 1, 1, 1, 1, 1, 1, 1}, "f99632d02ac350951f436a4c6343b7ef11062c7bfc56c495878699e5ee45c889"},
		{"a key", items(0), []int{2, 2, 2, 2, 2, 1, 1, 1, 1}, "70a694372125a3f00f6bd7a05b66f0358edfd743c07e8f5555179859520e33d1"},
		{"\xff\x80\xc3", items(0), []int{2, 2, 2, 1, 1, 1, 1, 1, 1}, "2fe1120c536d631c5290375edae191d4bbc6156bc3df55d8028f5ea130de3bb8"},
		{filled(64), items(0), []int{2, 2, 2, 1, 1, 1, 1, 1, 1}, "2fe1120c536d631c5290375edae191d4bbc6156bc3df55d8028f5ea130de3bb8"},
		{filled(65), items(0), []int{2, 2, 1, 1, 1, 1, 1, 1, 1}, "d3325a96534464ac4e70b6940fe131b60a440dc19ba990fe7215ba5e9a6a1c1a"},
		{"", items(3, 5, 9), []int{4, 2, 1, 1, 1, 1, 1, 1, 1}, "2e2c8910ce3ea1b77279e76fd3063b23963a1ab2d6b20e540eb093d9a3b5abe7"},
		{"a key", items(3, 5, 9), []int{4, 3, 3, 2, 2, 2, 2, 1, 1}, "ebf71e6c184b3a05395771492b9350a778390fce409ae02751cf0db79fab3efe"},
		{"another key", items(3, 5, 9), []int{4, 4, 1, 1, 1, 1, 1, 1, 1}, "83e68f2829c8ca48f4bfdf0ff7add252a7de0a0225144736cb7e97b4873c1687"},
		{"", nine(), []int{10, 4, 3, 3, 2, 2, 2, 1, 1}, "ece8fc811c8b9f2bcbcd23a473ae7c04343d0a255ba4cbb5fb24261159e111a2"},
		{"a key", nine(), []int{10, 9, 8, 7, 6, 5, 4, 3, 1}, "5556686c5bb11ffe1164b668bbf23854e7f37c7fbeb694ffb6e73697b52545b8"},
		{filled(64), nine(), []int{10, 4, 3, 1, 1, 1, 1, 1, 1}, "4d5402b4a73a0b724140d8b5b589c3dad4f29e709dbc9d403496e5dd7692e4d0"},
		{filled(65), nine(), []int{10, 3, 1, 1, 1, 1, 1, 1, 1}, "20f07a8b48e6674ff32a22286641bf66719fae201576fe1cd92f5ef76d08de09"},
		{"", cubes(), []int{65, 28, 15, 6, 4, 1, 1, 1, 1}, "b112054a4aa22a6009dc81f4808646d122b570f46affce2e52c57af03bde0e2f"},
		{"a key", cubes(), []int{65, 36, 16, 9, 6, 4, 3, 2, 1}, "59d0bbbaccf280909654d3c1d2df0a3396fb30a8714eefccacdbd9e0e00a378f"},
		{"another key", cubes(), []int{65, 26, 15, 10, 6, 3, 3, 1, 1}, "629685c372429230538edf67def325835219f5b87d94fca30be254634241d30d"},
		{"\xff\x80\xc3", cubes(), []int{65, 32, 17, 6, 3, 1, 1, 1, 1}, "1c5663a0b40134027f2da40f5bb52cac4435ad91bea92a70d3de0797f786ec5a"},
		{"", edges(), []int{11, 7, 5, 3, 2, 2, 2, 1, 1}, "928b25851e490d17b6369924a054b65af9ff32ee63401a5593271fe73035b53e"},
		{"a key", edges(), []int{11, 7, 5, 2, 2, 1, 1, 1, 1}, "0c0a8be902a7f52c150cadaa69094eca62717f3ad133ffa8eff49914dbb5571b"},
		{filled(64), edges(), []int{11, 6, 3, 2, 1, 1, 1, 1, 1}, "44647ba2a53ad44a175ac7326da0a514ed1393a47f1b379311396668f4ac0aad"},
	} {
		if got, e := label.Root(x.key, x.l); got != unhex(t, x.want) || e != api.OK {
			t.Errorf("Root by %.20q of %v = %x, %v, want %v", x.key, show(x.l), got, e, x.want)
		}
		for level, many := range x.many {
			if row, e := label.Row(x.key, x.l, level); len(row) != many || e != api.OK {
				t.Errorf("Row by %.20q of %v, level %v = %v, %v, want %v", x.key, show(x.l), level, told(row...), e, many)
			}
		}
	}
}

// filled is a key of so many bytes.
func filled(many int) string { return strings.Repeat("k", many) }

// The labels of each level's row of three lists, by key, told so, by their first bytes.
func TestRowsAsPrinted(t *testing.T) {
	for _, x := range []struct {
		l    []api.Item
		rows [9]string
	}{
		{nil, [9]string{"4bf5122f344554c5", "e64259bb4101f556", "c2cc8154fa6821e5", "21bfbb78dd2c9bbf", "bb20614b0890af01", "5d2094c22281b00b", "5a6842cbaf666d06", "f89397d01b20c359", "3b799246897c8bea"}},
		{items(3, 5, 9), [9]string{
			"4bf5122f344554c5 d4d1548a4917f6ad 6cb918d0fbecc42f 2fa5b984f3dc407c",
			"e64259bb4101f556 7c6d1551b4ca935f 939679ce74a446b1",
			"c2cc8154fa6821e5 64ad5f73f5d66f4d 57ba156a6330fbb3",
			"21bfbb78dd2c9bbf e280f3ae1118f02d",
			"bb20614b0890af01 8791e2690e20a13a",
			"5d2094c22281b00b 50f4b1a10ba0c548",
			"5a6842cbaf666d06 4d88f53e7f40255d",
			"b9d6b8d34401803a",
			"ebf71e6c184b3a05",
		}},
		{nine(), [9]string{
			"4bf5122f344554c5 a37f4606e57514c6 cf7e1cc1a6e70c63 d4d1548a4917f6ad 6cb918d0fbecc42f 2fa5b984f3dc407c 9904fc656aac15eb 9f563af301b39e63 a7168ee51154c992 e002ec46d123b91a",
			"e64259bb4101f556 b3598d2aee09d260 d9e38b5ed3e7c4bb 7c6d1551b4ca935f 939679ce74a446b1 9c8c192e7ee8b688 46a1c01faca75a29 af9cb10eeb8a4f4f afa06455989928a3",
			"c2cc8154fa6821e5 ae94d7656f84dbdd 64ad5f73f5d66f4d 57ba156a6330fbb3 a7c7d28584fa6a85 513c7320d173f288 6debb2a8f81ba0ac bf0c3546496f7023",
			"21bfbb78dd2c9bbf 0cd3ce9de400d561 e280f3ae1118f02d 39d611172bf3d8d1 6ba9ac16b056f6a7 c4fe69af25f66835 d4789c551785311a",
			"bb20614b0890af01 361f435672e96db9 6793902e9c55fdb7 7fc275688099693a 734867caa7a5ee3f 5ceca0cb9edd1983",
			"5d0f1e979ab3d453 f61fff64a44e0298 5271b13d49cbcecf 3217b8288e09c042 ff7bed0be81d2e7d",
			"8e2960406161c604 490d9066d7720ed0 45164909927c1b50 adce1e05ca6e5907",
			"ac0b36f65dd10fa5 d981e718d79862f8 6d84c54f25b7dbf2",
			"5556686c5bb11ffe",
		}},
	} {
		for level, want := range x.rows {
			row, e := label.Row(key, x.l, level)
			var first []string
			for _, s := range row {
				first = append(first, hex.EncodeToString([]byte(s[:8])))
			}
			if got := strings.Join(first, " "); got != want || e != api.OK {
				t.Errorf("Row of %v, level %v = %v, %v, want %v", show(x.l), level, got, e, want)
			}
		}
	}
}

// wrongs are lists that may not be, by the reason.
func wrongs() map[string][]api.Item {
	return map[string][]api.Item{
		"the same number twice":           items(7, 7),
		"0 twice":                         items(0, 0),
		"the greatest twice":              items(math.MaxUint64, math.MaxUint64),
		"the last number twice":           items(1, 2, 3, 3),
		"two that fall":                   items(8, 7),
		"the first two fall":              items(2, 1, 3, 4),
		"the last two fall":               items(1, 2, 4, 3),
		"2^63 ahead of 2^63 less 1":       items(1<<63, 1<<63-1),
		"2^32 ahead of 1":                 items(1<<32, 1),
		"64 items, the last two the same": append(rising(63, 0, 1), item(62)),
		"65 items":                        rising(65, 0, 1),
		"66 items":                        rising(66, 0, 2),
		"320 items":                       rising(320, 0, 1),
		"a text of 65 bytes":              with(items(1), 0, text(65)),
		"the first text of 65 bytes":      with(items(1, 2, 3), 0, text(65)),
		"the last text of 65 bytes":       with(items(1, 2, 3), 2, text(65)),
		"a text of 320 bytes":             with(items(1, 2, 3), 1, text(320)),
		"a text of 4097 bytes":            with(items(1, 2, 3), 1, text(4097)),
	}
}

func TestListsThatMayNotBe(t *testing.T) {
	for what, l := range wrongs() {
		if mayBe(l) {
			t.Errorf("%v: the model says that it may be", what)
		}
		for _, key := range []string{"", key, text(65)} {
			checkIsArg(t, key, l)
		}
	}
}

func TestLevelsThatAreNone(t *testing.T) {
	for _, l := range [][]api.Item{nil, {}, items(0), items(130), items(3, 5, 9), nine(), cubes()} {
		for _, level := range noLevels {
			checkNoRow(t, key, l, level, api.ErrRange)
			checkNoRow(t, "", l, level, api.ErrRange)
		}
	}
}

// Lists at edges, by keys at edges.
func TestListsByKeys(t *testing.T) {
	for _, key := range []string{"", "\x00", "a\x00key", "a key\x00", "\xff\x80\xc3", "\xed\xa0\x80", text(16), text(32), text(63), text(64), text(65), text(5000)} {
		for _, l := range [][]api.Item{nil, {}, {{}}, items(math.MaxUint64), items(0, math.MaxUint64), items(3, 5, 9), nine(), with(nine(), 4, text(64)), rising(12, math.MaxUint64-11, 1)} {
			checkList(t, key, l)
		}
	}
	for _, l := range [][]api.Item{cubes(), rising(63, 0, 1), rising(64, 0, 1), rising(64, math.MaxUint64-63, 1), rising(64, 5, 1<<57)} {
		checkList(t, key, l)
		checkList(t, "", l)
	}
}

// A key changes no item's label, but where the items are joined.
func TestRootHangsOnTheKey(t *testing.T) {
	for _, l := range [][]api.Item{items(0), items(3, 5, 9), nine(), cubes()} {
		seen := map[string]string{}
		for _, key := range []string{"", "a key", filled(65)} {
			root, e := label.Root(key, l)
			if other, is := seen[root]; is || e != api.OK {
				t.Errorf("Root of %v by %q, and by %q = %v, %v", show(l), key, other, told(root), e)
			}
			seen[root] = key
		}
	}
}

// P17.3

// A list's label is another one, wherever a Key or a Val is another one, or an item is more or less.
func TestRootHangsOnEachItem(t *testing.T) {
	for _, l := range [][]api.Item{items(7), items(3, 5, 9), nine(), rising(20, 10, 10)} {
		for _, key := range []string{key, ""} {
			root, _ := label.Root(key, l)
			seen := map[string]string{root: "itself"}
			see := func(what string, other []api.Item) {
				t.Helper()
				got, e := label.Root(key, other)
				if ahead, is := seen[got]; is || e != api.OK {
					t.Errorf("%v: Root by %q of %v = %v, %v, as of %v", what, key, show(other), told(got), e, ahead)
				}
				seen[got] = what
			}
			for at, x := range l {
				place := " at " + strconv.Itoa(at)
				see("another Val"+place, with(l, at, "another"))
				see("a byte more"+place, with(l, at, x.Val+"\x00"))
				see("a byte less"+place, with(l, at, x.Val[:len(x.Val)-1]))
				see("none"+place, with(l, at, ""))
				see("an item less"+place, slices.Delete(slices.Clone(l), at, at+1))
				if at+1 == len(l) || l[at+1].Key > x.Key+1 {
					more := api.Item{Key: x.Key + 1, Val: x.Val}
					see("another Key"+place, slices.Replace(slices.Clone(l), at, at+1, more))
					see("an item more"+place, slices.Insert(slices.Clone(l), at+1, more))
				}
			}
		}
	}
}

// Two items' Vals, changed over, or a byte that goes over to the next one, make another label.
func TestRootHangsOnWhereBytesStand(t *testing.T) {
	seen := map[string]int{}
	lists := [][]api.Item{
		{{Key: 3, Val: "ab"}, {Key: 5, Val: "c"}},
		{{Key: 3, Val: "a"}, {Key: 5, Val: "bc"}},
		{{Key: 3, Val: "c"}, {Key: 5, Val: "ab"}},
		{{Key: 3, Val: "bc"}, {Key: 5, Val: "a"}},
		{{Key: 3, Val: "abc"}, {Key: 5}},
		{{Key: 3}, {Key: 5, Val: "abc"}},
	}
	for _, l := range lists {
		root, _ := label.Root(key, l)
		seen[root]++
	}
	if len(seen) != len(lists) {
		t.Errorf("%v labels of %v lists", len(seen), len(lists))
	}
}

// Rows get no longer with the level, and have one label at the end: of lists of each number of items.
func TestRowsGetNoLonger(t *testing.T) {
	for many := range 65 {
		l := rising(many, 3, 7)
		longest := many + 1
		for level := range 9 {
			row, e := label.Row(key, l, level)
			if len(row) > longest || len(row) < 1 || e != api.OK || level == 0 && len(row) != longest || level == 8 && len(row) != 1 {
				t.Errorf("Row of %v items, level %v = %v labels, %v, behind %v", many, level, len(row), e, longest)
			}
			longest = len(row)
		}
	}
}

// Two items put in either order, one put twice, and one put and dropped make the same rows, and one label.
func TestLabelOfPutsByHand(t *testing.T) {
	a, b, c := item(3), item(5), item(9)
	want := items(3, 5, 9)
	for what, l := range map[string][]api.Item{
		"in order":           put(t, put(t, put(t, nil, a), b), c),
		"turned":             put(t, put(t, put(t, nil, c), b), a),
		"one between last":   put(t, put(t, put(t, nil, a), c), b),
		"one put twice":      put(t, put(t, put(t, put(t, nil, b), a), b), c),
		"another Val ahead":  put(t, put(t, put(t, put(t, nil, api.Item{Key: 5, Val: "x"}), a), c), b),
		"one put, dropped":   drop(t, put(t, put(t, put(t, put(t, nil, a), item(130)), b), c), 130),
		"dropped, put again": put(t, drop(t, put(t, put(t, put(t, nil, a), b), c), 3), a),
	} {
		if !slices.Equal(l, want) {
			t.Fatalf("%v: %v", what, show(l))
		}
		checkSame(t, want, l)
	}
}

// R4: no call changes the list that it was handed, nor what stands behind its end; and an answer's row is nobody else's.
func TestListsAreNotChangedAndNotShared(t *testing.T) {
	behind := items(7, 1, 8)
	for _, l := range [][]api.Item{nil, items(3), items(3, 5, 9), nine(), rising(64, 0, 3), items(9, 5, 3), items(5, 5), with(items(3, 5, 9), 1, text(65))} {
		memory := slices.Concat(l, behind)
		for level := -1; level <= 9; level++ {
			got, _ := label.Row(key, memory[:len(l)], level)
			was := slices.Clone(got)
			again, _ := label.Row(key, memory[:len(l)], level)
			clear(got[:cap(got)])
			if !slices.Equal(again, was) {
				t.Errorf("Row of %v, level %v = %v, and then %v", show(l), level, told(was...), told(again...))
			}
		}
		label.Root(key, memory[:len(l)])
		if !slices.Equal(memory, slices.Concat(l, behind)) {
			t.Errorf("%v was changed: %v", show(l), show(memory))
		}
	}
}

// The same of labels that are handed.
func TestLabelsAreNotChanged(t *testing.T) {
	behind := some(3)
	for _, l := range [][]string{nil, some(1), some(2), some(65), {""}, of(some(3), 0, text(31)), of(some(3), 2, text(33))} {
		memory := slices.Concat(l, behind)
		for level := -1; level <= 9; level++ {
			first, _ := label.Join(level, memory[:len(l)])
			if again, _ := label.Join(level, memory[:len(l)]); again != first {
				t.Errorf("Join on %v of %v = %v, and then %v", level, told(l...), told(first), told(again))
			}
		}
		if !slices.Equal(memory, slices.Concat(l, behind)) {
			t.Errorf("%v were changed: %v", told(l...), told(memory...))
		}
	}
}
