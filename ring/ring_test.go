package ring_test

import (
	"math"
	"slices"
	"strconv"
	"strings"
	"testing"

	"saltus/api"
	"saltus/ring"
)

// sizes are the edges of how many slots a ring has, and some between.
var sizes = []int{1, 2, 3, 7, 63, 64}

// long is a text that no other layer would take.
var long = strings.Repeat("long", 1<<15)

// letters are so many texts, no two side by side the same.
func letters(many int) []string {
	texts := make([]string, many)
	for i := range texts {
		texts[i] = strconv.Itoa(i + 1)
	}
	return texts
}

// empties are so many empty texts.
func empties(many int) []string { return make([]string, many) }

// kinds are lists of so many texts: of none that is empty, of empty ones alone, and of both, an empty one at either end, at both, and between.
func kinds(many int) [][]string {
	l := [][]string{letters(many), empties(many)}
	if many == 0 {
		return l
	}
	for _, at := range [][]int{{0}, {many - 1}, {0, many - 1}, {many / 2}} {
		texts := letters(many)
		for _, i := range at {
			texts[i] = ""
		}
		l = append(l, texts)
	}
	odd := letters(many)
	for i := range odd {
		odd[i] = []string{"", "\xff\xfe", "\x00", "a\nb", " "}[i%5]
	}
	return append(l, odd)
}

// The chapter's example.
func TestExample(t *testing.T) {
	r, e := ring.New(3)
	if e != api.OK {
		t.Fatal(e)
	}
	for _, s := range []string{"a", "b", "c"} {
		if r, e = ring.Push(r, s); e != api.OK {
			t.Fatal(s, e)
		}
	}
	if r, e = ring.Drop(r, 1); e != api.OK {
		t.Fatal(e)
	}
	if texts, e := ring.Items(r); !slices.Equal(texts, []string{"b", "c"}) || e != api.OK {
		t.Errorf("%q, %v, want b c", texts, e)
	}
	if !same(r, api.Ring{Slots: []string{"", "b", "c"}, From: 1, Many: 2}) {
		t.Errorf("%v", show(r))
	}
	if r, e = ring.Push(r, "d"); !same(r, api.Ring{Slots: []string{"d", "b", "c"}, From: 1, Many: 3}) || e != api.OK {
		t.Errorf("with d: %v, %v", show(r), e)
	}
}

// P14.1

func TestNew(t *testing.T) {
	for _, n := range []int{math.MinInt, math.MinInt + 1, -65, -64, -1, 0, 65, 66, 127, 128, 256, 257, 1 << 16, 1<<32 + 1, math.MaxInt - 1, math.MaxInt} {
		if r, e := ring.New(n); !isNothing(r) || e != api.ErrSize {
			t.Errorf("New(%v) = %v, %v, want ErrSize", n, show(r), e)
		}
	}
	for n := 1; n <= 64; n++ {
		r, e := ring.New(n)
		if !same(r, api.Ring{Slots: make([]string, n)}) || e != api.OK {
			t.Errorf("New(%v) = %v, %v", n, show(r), e)
		}
		if !ring.Right(r) {
			t.Errorf("New(%v) may not be", n)
		}
		if texts, e := ring.Items(r); len(texts) != 0 || e != api.OK {
			t.Errorf("Items of New(%v) = %q, %v", n, texts, e)
		}
	}
}

// wrongs are rings that may not be, each for one reason alone, by that reason.
func wrongs() map[string]api.Ring {
	l := map[string]api.Ring{
		"nothing":                        {},
		"no slot":                        {Slots: []string{}},
		"no slot, and a text":            {Many: 1},
		"no slot, and From":              {From: 1},
		"no slot, and From below 0":      {From: -1},
		"65 empty slots":                 {Slots: empties(65)},
		"65 slots, full":                 {Slots: letters(65), Many: 65},
		"65 slots, from the last one on": {Slots: empties(65), From: 64},
		"65 slots, a text":               {Slots: append([]string{"a"}, empties(64)...), Many: 1},
		"66 slots":                       {Slots: empties(66)},
		"128 slots":                      {Slots: empties(128)},
		"256 slots":                      {Slots: empties(256)},
		"320 slots":                      {Slots: empties(320)},
		"65600 slots":                    {Slots: empties(65600)},
	}
	for _, n := range sizes {
		put := func(why string, wrong api.Ring) { l[strconv.Itoa(n)+" slots, "+why] = wrong }
		for _, from := range []int{math.MinInt, math.MinInt + 1, -2 * n, -n - 1, -n, -1, n, n + 1, 2*n - 1, 2 * n, 64, 65, 1 << 32, math.MaxInt - n, math.MaxInt} {
			if from >= 0 && from < n {
				continue
			}
			put("no texts, From "+strconv.Itoa(from), api.Ring{Slots: empties(n), From: from})
			put("full, From "+strconv.Itoa(from), api.Ring{Slots: letters(n), From: from, Many: n})
		}
		for _, many := range []int{math.MinInt, math.MinInt + 1, -n - 1, -n, -1, n + 1, 2*n - 1, 2 * n, 64, 65, 1 << 32, 1<<32 + n, math.MaxInt - n, math.MaxInt - 1, math.MaxInt} {
			if many >= 0 && many <= n {
				continue
			}
			for _, from := range []int{0, n / 2, n - 1} {
				at := ", Many " + strconv.Itoa(many) + ", From " + strconv.Itoa(from)
				put("no texts"+at, api.Ring{Slots: empties(n), From: from, Many: many})
				put("full"+at, api.Ring{Slots: letters(n), From: from, Many: many})
			}
		}
	}
	return l
}

func TestRingsThatMayNotBe(t *testing.T) {
	for why, r := range wrongs() {
		if ring.Right(r) {
			t.Errorf("%v: Right = true", why)
		}
		checkIsArg(t, r)
	}
}

// A text in each slot that is none of a text's, of each ring of some sizes: ahead of the first text, behind the last one, and between both; that slot emptied, the ring may be.
func TestTextsInOtherSlots(t *testing.T) {
	for _, n := range []int{1, 2, 3, 4, 9} {
		for from := range n {
			for many := range n {
				for _, texts := range [][]string{letters(many), empties(many)} {
					for behind := many; behind < n; behind++ {
						for _, s := range []string{"a", "\x00", " ", "\xff", long} {
							r := of(n, from, texts)
							at := placed(n, from, behind)
							r.Slots[at] = s
							checkIsArg(t, r)
							r.Slots[at] = ""
							checkRight(t, r)
						}
					}
				}
			}
		}
	}
	for from := range 64 {
		for _, many := range []int{0, 1, 32, 62, 63} {
			for behind := many; behind < 64; behind++ {
				r := of(64, from, letters(many))
				r.Slots[placed(64, from, behind)] = "a"
				if ring.Right(r) {
					t.Errorf("Right of 64 slots, From %v, Many %v, a text %v slots behind From = true", from, many, behind)
				}
			}
		}
	}
}

// The same by hand: told by no other call of the tests.
func TestRightByHand(t *testing.T) {
	for _, c := range []struct {
		slots      string
		from, many int
		want       bool
	}{
		{".", 0, 0, true},
		{".", 0, 1, true},
		{"a", 0, 1, true},
		{"a", 0, 0, false},
		{"a", 1, 1, false},
		{"ab..", 0, 2, true},
		{"ab..", 0, 3, true},
		{"ab..", 0, 1, false},
		{"ab..", 1, 1, false},
		{".ab.", 1, 2, true},
		{".ab.", 0, 3, true},
		{".ab.", 0, 2, false},
		{".ab.", 2, 1, false},
		{"b..a", 3, 2, true},
		{"b..a", 3, 1, false},
		{"b..a", 0, 1, false},
		{"b..a", 2, 3, true},
		{"bc.a", 3, 3, true},
		{"bc.a", 3, 2, false},
		{"bcxa", 3, 3, false},
		{"bcxa", 3, 4, true},
		{"....", 3, 4, true},
		{"....", 4, 0, false},
		{"....", 3, 5, false},
		{"....", -1, 0, false},
		{"....", 0, -1, false},
	} {
		slots := strings.Split(c.slots, "")
		for i, s := range slots {
			if s == "." {
				slots[i] = ""
			}
		}
		if got := ring.Right(api.Ring{Slots: slots, From: c.from, Many: c.many}); got != c.want {
			t.Errorf("Right of %v from %v, %v texts = %v", c.slots, c.from, c.many, got)
		}
	}
}

func TestNilSlotsAreNoSlots(t *testing.T) {
	none, empty := api.Ring{}, api.Ring{Slots: []string{}}
	if !ring.Like(none, empty) || !ring.Like(empty, none) {
		t.Error("slots that are nil are not as no slots")
	}
	checkIsArg(t, none)
	checkIsArg(t, empty)
}

// unlike are rings of which no two are the same: those that differ in one thing alone from one, and some that may not be.
func unlike() []api.Ring {
	r := of(8, 6, letters(4))
	l := []api.Ring{r, {}, {From: 1}, {Many: 1}, {Slots: empties(1)}, {Slots: empties(64)}, {Slots: empties(65)}, of(64, 63, letters(64)), of(64, 0, letters(64))}
	for _, from := range []int{5, 7, 0, -6, 14, 1<<32 + 6, math.MinInt, math.MaxInt} {
		l = append(l, api.Ring{Slots: r.Slots, From: from, Many: r.Many})
	}
	for _, many := range []int{3, 5, 0, 8, 9, -4, 1<<32 + 4, math.MinInt, math.MaxInt} {
		l = append(l, api.Ring{Slots: r.Slots, From: r.From, Many: many})
	}
	for at := range r.Slots {
		for _, s := range []string{"", "a", "\x00", " ", long, long + "a"} {
			if other := kept(r); other.Slots[at] != s {
				other.Slots[at] = s
				l = append(l, other)
			}
		}
	}
	for _, slots := range [][]string{
		r.Slots[:7], r.Slots[1:], r.Slots[:1], nil,
		append(slices.Clone(r.Slots), ""), append(slices.Clone(r.Slots), "a"), append([]string{""}, r.Slots...), slices.Concat(r.Slots, r.Slots),
	} {
		l = append(l, api.Ring{Slots: slots, From: r.From, Many: r.Many})
	}
	return l
}

func TestLike(t *testing.T) {
	l := unlike()
	for i, a := range l {
		for j, b := range l {
			if got := ring.Like(a, kept(b)); got != (i == j) {
				t.Errorf("Like(%v, %v) = %v", show(a), show(b), got)
			}
		}
	}
}

// Rings with the same texts from another slot on tell the same texts, and are not the same.
func TestLikeOfTheSameTexts(t *testing.T) {
	for from := range 6 {
		for other := range 6 {
			for _, texts := range [][]string{nil, letters(3), empties(3), letters(6), empties(6)} {
				if got := ring.Like(of(6, from, texts), of(6, other, texts)); got != (from == other) {
					t.Errorf("Like of %q from %v and from %v = %v", texts, from, other, got)
				}
			}
		}
	}
}

// P14.2

// Rings of each edge's number of slots: with no text, one, half, all but one and all, from each slot on, and all calls of them.
func TestCallsAtEdges(t *testing.T) {
	for _, n := range sizes {
		for _, many := range slices.Compact([]int{0, min(1, n), n / 2, n - 1, n}) {
			for _, texts := range kinds(many) {
				for _, from := range slices.Compact([]int{0, n / 3, n / 2, n - many, n - 1}) {
					if from < n {
						checkAll(t, n, from, texts)
					}
				}
			}
		}
	}
}

// To a ring with no text, one with one slot left, and a full one, from each slot on: an empty text, a plain one, one of bytes that are no UTF-8 and a long one.
func TestPushFromEachSlot(t *testing.T) {
	for _, n := range sizes {
		for from := range n {
			for _, many := range []int{0, n - 1, n} {
				for _, s := range []string{"", "a", "\xff\x80\x00\xc3", long} {
					checkPush(t, n, from, letters(many), s)
					checkPush(t, n, from, empties(many), s)
				}
			}
		}
	}
}

// What is pushed stands in the slot behind the others', and is as it was, byte by byte.
func TestPushByHand(t *testing.T) {
	for _, s := range []string{"", "a", "\xff\x80\x00\xc3", long} {
		for _, c := range []struct{ before, want api.Ring }{
			{api.Ring{Slots: []string{"", "", ""}}, api.Ring{Slots: []string{s, "", ""}, Many: 1}},
			{api.Ring{Slots: []string{"", "", ""}, From: 2}, api.Ring{Slots: []string{"", "", s}, From: 2, Many: 1}},
			{api.Ring{Slots: []string{"", "", "x"}, From: 2, Many: 1}, api.Ring{Slots: []string{s, "", "x"}, From: 2, Many: 2}},
			{api.Ring{Slots: []string{"y", "", "x"}, From: 2, Many: 2}, api.Ring{Slots: []string{"y", s, "x"}, From: 2, Many: 3}},
			{api.Ring{Slots: []string{"", "", ""}, From: 1, Many: 2}, api.Ring{Slots: []string{s, "", ""}, From: 1, Many: 3}},
			{api.Ring{Slots: []string{""}}, api.Ring{Slots: []string{s}, Many: 1}},
		} {
			if got, e := ring.Push(c.before, s); !same(got, c.want) || e != api.OK {
				t.Errorf("Push(%v, %.20q) = %v, %v, want %v", show(c.before), s, show(got), e, show(c.want))
			}
		}
	}
	for _, full := range []api.Ring{{Slots: []string{"x"}, Many: 1}, {Slots: []string{""}, Many: 1}, {Slots: []string{"y", "z", "x"}, From: 2, Many: 3}, {Slots: []string{"", "", ""}, From: 1, Many: 3}} {
		for _, s := range []string{"", "a", long} {
			if got, e := ring.Push(full, s); !isNothing(got) || e != api.ErrSpace {
				t.Errorf("Push(%v, %.20q) = %v, %v, want ErrSpace", show(full), s, show(got), e)
			}
		}
	}
}

// Of rings with no text, one, all but one and all, from each slot on.
func TestDropFromEachSlot(t *testing.T) {
	for _, n := range sizes {
		for from := range n {
			for _, many := range slices.Compact([]int{0, min(1, n), n / 2, n - 1, n}) {
				checkDrops(t, n, from, letters(many))
				checkDrops(t, n, from, empties(many))
			}
		}
	}
}

// The slots of what is dropped are empty, and From is behind them.
func TestDropByHand(t *testing.T) {
	full := api.Ring{Slots: []string{"c", "d", "a", "b"}, From: 2, Many: 4}
	for n, want := range []api.Ring{
		full,
		{Slots: []string{"c", "d", "", "b"}, From: 3, Many: 3},
		{Slots: []string{"c", "d", "", ""}, From: 0, Many: 2},
		{Slots: []string{"", "d", "", ""}, From: 1, Many: 1},
		{Slots: []string{"", "", "", ""}, From: 2, Many: 0},
	} {
		if got, e := ring.Drop(full, n); !same(got, want) || e != api.OK {
			t.Errorf("Drop(%v, %v) = %v, %v, want %v", show(full), n, show(got), e, show(want))
		}
	}
	for _, r := range []api.Ring{full, {Slots: []string{"", "", ""}, From: 1}, {Slots: []string{"b", "", "a"}, From: 2, Many: 2}, {Slots: []string{"a"}, Many: 1}, {Slots: []string{""}, Many: 1}, {Slots: []string{""}}} {
		for _, n := range []int{math.MinInt, -1, r.Many + 1, r.Many + len(r.Slots), 1 << 32, math.MaxInt} {
			if got, e := ring.Drop(r, n); !isNothing(got) || e != api.ErrRange {
				t.Errorf("Drop(%v, %v) = %v, %v, want ErrRange", show(r), n, show(got), e)
			}
		}
	}
}

func TestItemsByHand(t *testing.T) {
	for _, c := range []struct {
		r    api.Ring
		want []string
	}{
		{api.Ring{Slots: []string{""}}, nil},
		{api.Ring{Slots: []string{""}, Many: 1}, []string{""}},
		{api.Ring{Slots: []string{"", "", ""}, From: 2}, nil},
		{api.Ring{Slots: []string{"b", "", "a"}, From: 2, Many: 2}, []string{"a", "b"}},
		{api.Ring{Slots: []string{"b", "", "a"}, From: 2, Many: 3}, []string{"a", "b", ""}},
		{api.Ring{Slots: []string{"b", "", "a"}, From: 1, Many: 3}, []string{"", "a", "b"}},
		{api.Ring{Slots: []string{"", "b", "", ""}, From: 0, Many: 3}, []string{"", "b", ""}},
		{api.Ring{Slots: []string{"c", "d", "a", "b"}, From: 2, Many: 4}, []string{"a", "b", "c", "d"}},
		{api.Ring{Slots: []string{"\xff\x00", long}, From: 1, Many: 2}, []string{long, "\xff\x00"}},
	} {
		if got, e := ring.Items(c.r); !slices.Equal(got, c.want) || e != api.OK {
			t.Errorf("Items(%v) = %.80q, %v, want %.80q", show(c.r), got, e, c.want)
		}
	}
}

// The errors' order: a ring that may not be is told ahead of no space, and ahead of a number out of its range.
func TestTwoThingsWrong(t *testing.T) {
	for _, r := range []api.Ring{
		{},
		{Slots: letters(65), Many: 65},
		{Slots: letters(64), From: 64, Many: 64},
		{Slots: letters(64), From: -1, Many: 64},
		{Slots: letters(3), From: 3, Many: 3},
		{Slots: letters(3), Many: 4},
		{Slots: letters(3), From: -1, Many: -1},
		{Slots: letters(3), From: 1, Many: 2},
	} {
		if got, e := ring.Push(r, "a"); !isNothing(got) || e != api.ErrArg {
			t.Errorf("Push(%v) = %v, %v, want ErrArg", show(r), show(got), e)
		}
		for _, n := range []int{math.MinInt, -1, r.Many + 1, 65, math.MaxInt} {
			if got, e := ring.Drop(r, n); !isNothing(got) || e != api.ErrArg {
				t.Errorf("Drop(%v, %v) = %v, %v, want ErrArg", show(r), n, show(got), e)
			}
		}
	}
}

// P14.3

// Each text is pushed and dropped by itself, from each slot on, round the end three times.
func TestOneTextAtATime(t *testing.T) {
	for _, n := range sizes {
		r, e := ring.New(n)
		if e != api.OK {
			t.Fatal(e)
		}
		for i := range 3*n + 1 {
			s := strconv.Itoa(i)
			if r, e = ring.Push(r, s); !same(r, of(n, i%n, []string{s})) || e != api.OK {
				t.Fatalf("%v slots, push %v: %v, %v", n, i, show(r), e)
			}
			if texts, e := ring.Items(r); !slices.Equal(texts, []string{s}) || e != api.OK {
				t.Fatalf("%v slots, items %v: %q, %v", n, i, texts, e)
			}
			if r, e = ring.Drop(r, 1); !same(r, of(n, (i+1)%n, nil)) || e != api.OK {
				t.Fatalf("%v slots, drop %v: %v, %v", n, i, show(r), e)
			}
		}
	}
}

// A ring that is kept full, or all but full, goes round the end three times: the first text is the oldest one.
func TestFullRingGoesRound(t *testing.T) {
	for _, n := range sizes {
		r, e := ring.New(n)
		for i := 0; i < n && e == api.OK; i++ {
			r, e = ring.Push(r, strconv.Itoa(i))
		}
		if e != api.OK {
			t.Fatal(e)
		}
		for i := range 3*n + 1 {
			if _, e := ring.Push(r, "more"); e != api.ErrSpace {
				t.Fatalf("%v slots, push to a full one: %v", n, e)
			}
			texts, e := ring.Items(r)
			if e != api.OK || len(texts) != n || texts[0] != strconv.Itoa(i) || texts[n-1] != strconv.Itoa(i+n-1) {
				t.Fatalf("%v slots, %v dropped: %q, %v", n, i, texts, e)
			}
			if r, e = ring.Drop(r, 1); e != api.OK || !ring.Right(r) {
				t.Fatalf("%v slots, drop %v: %v, %v", n, i, show(r), e)
			}
			if r, e = ring.Push(r, strconv.Itoa(i+n)); e != api.OK || !ring.Right(r) {
				t.Fatalf("%v slots, push %v: %v, %v", n, i, show(r), e)
			}
		}
	}
}

// Dropping some, and then others, is dropping as many at once.
func TestDropOneBehindTheOther(t *testing.T) {
	for _, n := range []int{1, 2, 3, 8, 64} {
		for _, from := range slices.Compact([]int{0, n / 2, n - 1}) {
			for _, many := range slices.Compact([]int{0, n / 2, n - 1, n}) {
				r := of(n, from, letters(many))
				for first := range many + 1 {
					for then := range many - first + 1 {
						checkDropTwice(t, r, first, then)
					}
				}
			}
		}
	}
}

// checkDropTwice holds dropping twice against dropping once, and one more than is left against nothing.
func checkDropTwice(t *testing.T, r api.Ring, first, then int) {
	t.Helper()
	once, e := ring.Drop(r, first+then)
	if e != api.OK {
		t.Fatalf("Drop(%v, %v) = %v", show(r), first+then, e)
	}
	some, e := ring.Drop(r, first)
	if e != api.OK {
		t.Fatalf("Drop(%v, %v) = %v", show(r), first, e)
	}
	if twice, e := ring.Drop(some, then); !same(twice, once) || !ring.Like(twice, once) || e != api.OK {
		t.Errorf("Drop(%v, %v and %v) = %v, %v, want %v", show(r), first, then, show(twice), e, show(once))
	}
	if got, e := ring.Drop(some, r.Many-first+1); !isNothing(got) || e != api.ErrRange {
		t.Errorf("Drop(%v, %v, and one more than is left) = %v, %v, want ErrRange", show(r), first, show(got), e)
	}
}

// R4: no call changes the slots that it was handed, nor what stands behind their end; and an answer's list is nobody else's.
func TestSlotsAreNotChangedAndNotShared(t *testing.T) {
	for name, call := range map[string]func(r api.Ring) []string{
		"New":              func(r api.Ring) []string { r, _ = ring.New(5); return r.Slots },
		"Right":            func(r api.Ring) []string { ring.Right(r); return nil },
		"Like":             func(r api.Ring) []string { ring.Like(r, r); return nil },
		"Items":            func(r api.Ring) []string { l, _ := ring.Items(r); return l },
		"Push":             func(r api.Ring) []string { r, _ = ring.Push(r, "p"); return r.Slots },
		"Push of no text":  func(r api.Ring) []string { r, _ = ring.Push(r, ""); return r.Slots },
		"Drop":             func(r api.Ring) []string { r, _ = ring.Drop(r, 1); return r.Slots },
		"Drop of none":     func(r api.Ring) []string { r, _ = ring.Drop(r, 0); return r.Slots },
		"Drop of all":      func(r api.Ring) []string { r, _ = ring.Drop(r, r.Many); return r.Slots },
		"Drop of too many": func(r api.Ring) []string { r, _ = ring.Drop(r, 6); return r.Slots },
	} {
		for from := range 5 {
			for many := range 6 {
				want := of(5, from, letters(many))
				memory := append(slices.Clone(want.Slots), "x", "y", "z")
				r := api.Ring{Slots: memory[:5], From: from, Many: many}
				unchanged := func() bool {
					return same(r, want) && slices.Equal(memory[5:], []string{"x", "y", "z"})
				}
				got := call(r)
				if !unchanged() {
					t.Errorf("%v changed a ring: %q", name, memory)
				}
				was := slices.Clone(got)
				again := call(r)
				clear(got[:cap(got)])
				if !unchanged() {
					t.Errorf("%v's answer is its argument's memory", name)
				}
				if !slices.Equal(again, was) {
					t.Errorf("%v: %q, and then %q", name, was, again)
				}
			}
		}
	}
}
