package bitmap_test

import (
	"math"
	"math/rand"
	"slices"
	"strconv"
	"strings"
	"testing"

	"saltus/api"
	"saltus/bitmap"
)

// All bits of a word.
const all = uint64(math.MaxUint64)

// counts are the edges of how many places a map has.
var counts = []int{1, 2, 62, 63, 64, 65, 127, 128, 129, 191, 192, 193, 4032, 4033, 4095, 4096}

// The chapter's example.
func TestExample(t *testing.T) {
	m, e := bitmap.New(8)
	if e != api.OK {
		t.Fatal(e)
	}
	for _, i := range []int{0, 3} {
		if m, e = bitmap.Set(m, i, true); e != api.OK {
			t.Fatal(e)
		}
	}
	if at, e := bitmap.Find(m, 3); at != 4 || e != api.OK {
		t.Errorf("%v, %v, want 4", at, e)
	}
	if !same(m, api.Bits{N: 8, Low: []uint64{0xffffffffffffff09}}) {
		t.Error(m)
	}
}

// P12.1

func TestNew(t *testing.T) {
	for _, n := range []int{math.MinInt, -4096, -64, -63, -1, 0, 4097, 4098, 4160, 1 << 32, 1<<32 + 1, math.MaxInt - 63, math.MaxInt} {
		if m, e := bitmap.New(n); !isNothing(m) || e != api.ErrSize {
			t.Errorf("New(%v) = %v, %v, want ErrSize", n, m, e)
		}
	}
	for n := 1; n <= 4096; n++ {
		m, e := bitmap.New(n)
		if !same(m, of(free(n))) || e != api.OK {
			t.Errorf("New(%v) = %v, %v", n, m, e)
		}
		if !bitmap.Right(m) {
			t.Errorf("New(%v) may not be", n)
		}
	}
}

// New's maps, word by word.
func TestNewByHand(t *testing.T) {
	for n, want := range map[int][]uint64{
		1:   {0xfffffffffffffffe},
		2:   {0xfffffffffffffffc},
		63:  {0x8000000000000000},
		64:  {0},
		65:  {0, 0xfffffffffffffffe},
		127: {0, 0x8000000000000000},
		128: {0, 0},
		129: {0, 0, 0xfffffffffffffffe},
	} {
		if m, e := bitmap.New(n); !same(m, api.Bits{N: n, Low: want}) || e != api.OK {
			t.Errorf("New(%v) = %x, %v", n, m, e)
		}
	}
	if m, e := bitmap.New(4096); !same(m, api.Bits{N: 4096, Low: make([]uint64, 64)}) || e != api.OK {
		t.Errorf("New(4096) = %x, %v", m, e)
	}
	if m, e := bitmap.New(4095); !same(m, api.Bits{N: 4095, Low: append(make([]uint64, 63), 1<<63)}) || e != api.OK {
		t.Errorf("New(4095) = %x, %v", m, e)
	}
}

// Free places' words are another number's only where that has its last places taken, in as many words.
func TestRightOfEachNumberOfPlaces(t *testing.T) {
	for n := 1; n <= 4096; n++ {
		checkRight(t, free(n))
		checkRight(t, taken(n))
		for _, other := range []int{n - 64, n - 1, n + 1, n + 64, -n} {
			m := api.Bits{N: other, Low: of(free(n)).Low}
			want := other > n && same(m, of(free(n)+taken(other-n)))
			if got := bitmap.Right(m); got != want {
				t.Errorf("Right of %v places with the words of %v = %v", other, n, got)
			}
		}
	}
}

// wrongs are maps that may not be, each for one reason alone, by that reason.
func wrongs() map[string]api.Bits {
	l := map[string]api.Bits{
		"nothing":                     {},
		"no places, a word":           {N: 0, Low: []uint64{all}, Full: 1},
		"no places, an empty word":    {N: 0, Low: []uint64{0}},
		"-1 places, no word":          {N: -1},
		"-1 places, a word":           {N: -1, Low: []uint64{all}, Full: 1},
		"-63 places":                  {N: -63},
		"-64 places":                  {N: -64},
		"-64 places, a word":          {N: -64, Low: []uint64{all}, Full: 1},
		"the least number of places":  {N: math.MinInt},
		"the least, with a word":      {N: math.MinInt, Low: []uint64{all}, Full: 1},
		"the greatest number":         {N: math.MaxInt},
		"the greatest, with a word":   {N: math.MaxInt, Low: []uint64{0}},
		"4097 free places":            of(free(4097)),
		"4097 places, 4096 of them":   of(taken(4096) + "."),
		"4160 places":                 of(free(4160)),
		"4097 places in 64 words":     {N: 4097, Low: make([]uint64, 64)},
		"2^32 + 64 places in a word":  {N: 1<<32 + 64, Low: []uint64{0}},
		"2^16 + 64 places in a word":  {N: 1<<16 + 64, Low: []uint64{0}},
		"no word":                     {N: 1},
		"no word, and one full":       {N: 1, Full: 1},
		"64 places in two words":      {N: 64, Low: []uint64{0, 0}},
		"64 places, a full one more":  {N: 64, Low: []uint64{0, all}, Full: 2},
		"64 places, one more, no bit": {N: 64, Low: []uint64{0, all}},
		"65 places in a word":         {N: 65, Low: []uint64{0}},
		"128 places in a word":        {N: 128, Low: []uint64{0}},
		"4096 places in 65 words":     {N: 4096, Low: make([]uint64, 65)},
		"4096 places in 63 words":     {N: 4096, Low: make([]uint64, 63)},
		"the last place's bit beside": {N: 63, Low: []uint64{0}},
	}
	for _, n := range counts {
		for name, places := range map[string]string{"free": free(n), "taken": taken(n), "but the last": taken(n-1) + ".", "but the first": "." + taken(n-1)} {
			m := of(places)
			at := func(what string, wrong api.Bits) { l[strconv.Itoa(n)+" places, "+name+", "+what] = wrong }
			last := len(m.Low) - 1
			at("a word too many", api.Bits{N: n, Low: append(slices.Clone(m.Low), 0), Full: m.Full})
			at("a word too many, of no place", api.Bits{N: n, Low: append(slices.Clone(m.Low), all), Full: m.Full | 1<<(last+1)})
			at("a word too few", api.Bits{N: n, Low: m.Low[:last], Full: m.Full &^ (1 << last)})
			if n%64 != 0 {
				at("the last bit of no place", withWord(m, last, m.Low[last]&^(1<<63)))
				at("the first bit of no place", withWord(m, last, m.Low[last]&^(1<<(n%64))))
				at("all bits of no place", withWord(m, last, m.Low[last]&(1<<(n%64)-1)))
			}
		}
	}
	return l
}

// withWord is a map with another word, and Full as that has it.
func withWord(m api.Bits, w int, word uint64) api.Bits {
	low := slices.Clone(m.Low)
	low[w] = word
	m.Full &^= 1 << w
	if word == all {
		m.Full |= 1 << w
	}
	return api.Bits{N: m.N, Low: low, Full: m.Full}
}

// checkIsArg holds that all calls of a map that may not be tell ErrArg, whatever else is wrong, and nothing beside that.
func checkIsArg(t *testing.T, why string, m api.Bits) {
	t.Helper()
	if bitmap.Right(m) {
		t.Errorf("Right of %v = true", why)
	}
	for _, i := range []int{math.MinInt, -1, 0, 63, 64, m.N - 1, m.N, math.MaxInt} {
		if got, e := bitmap.Get(m, i); got || e != api.ErrArg {
			t.Errorf("Get of %v, %v = %v, %v, want ErrArg", why, i, got, e)
		}
		for _, take := range []bool{false, true} {
			if got, e := bitmap.Set(m, i, take); !isNothing(got) || e != api.ErrArg {
				t.Errorf("Set of %v, %v = %v, %v, want ErrArg", why, i, got, e)
			}
		}
	}
	for _, many := range []int{math.MinInt, -1, 0, 1, 2, 64, m.N, 4096, 4097, math.MaxInt} {
		if got, e := bitmap.Find(m, many); got != 0 || e != api.ErrArg {
			t.Errorf("Find of %v, %v = %v, %v, want ErrArg", why, many, got, e)
		}
	}
	if got, e := bitmap.Count(m); got != 0 || e != api.ErrArg {
		t.Errorf("Count of %v = %v, %v, want ErrArg", why, got, e)
	}
}

func TestMapsThatMayNotBe(t *testing.T) {
	for why, m := range wrongs() {
		checkIsArg(t, why, m)
	}
}

// Each bit of Full is asked: that of a full word, that of one that is not, and that of none.
func TestEachBitOfFull(t *testing.T) {
	for _, n := range counts {
		for _, places := range []string{free(n), taken(n), taken(n-1) + ".", "." + taken(n-1), taken(n/2) + free(n-n/2)} {
			for w := range 64 {
				m := of(places)
				m.Full ^= 1 << w
				checkIsArg(t, "bit of Full", m)
			}
		}
	}
	for _, full := range []uint64{all, all - 1, 1 << 63, 2} {
		checkIsArg(t, "bits of Full", api.Bits{N: 64, Low: []uint64{0}, Full: full})
	}
}

// Each bit of no place is asked, whatever the others are, and no bit of a place is.
func TestEachBitOfNoPlace(t *testing.T) {
	for n := 1; n <= 129; n++ {
		for _, places := range []string{free(n), taken(n)} {
			m := of(places)
			last := len(m.Low) - 1
			for i := range 64 {
				wrong := withWord(m, last, m.Low[last]^(1<<i))
				if got, want := bitmap.Right(wrong), last*64+i < n; got != want {
					t.Errorf("Right of %v places, bit %v of the last word turned = %v", n, i, got)
				}
			}
		}
	}
}

func TestNilWordsAreEmptyOnes(t *testing.T) {
	for _, n := range []int{0, 1, -1, 64} {
		none, empty := api.Bits{N: n}, api.Bits{N: n, Low: []uint64{}}
		if !bitmap.Like(none, empty) || !bitmap.Like(empty, none) {
			t.Errorf("of %v places, words that are nil are not as empty ones", n)
		}
		checkIsArg(t, "nil words", none)
		checkIsArg(t, "empty words", empty)
	}
}

func TestLike(t *testing.T) {
	l := unlike()
	for i, a := range l {
		for j, b := range l {
			b.Low = slices.Clone(b.Low)
			if got := bitmap.Like(a, b); got != (i == j) {
				t.Errorf("Like(%v, %v) = %v", a, b, got)
			}
		}
	}
}

// unlike are maps of which no two are the same: those that differ in one thing alone from one, and some that may not be.
func unlike() []api.Bits {
	l := []api.Bits{of(free(4096)), of(taken(4096)), of(free(64)), of(taken(64)), {}, {N: 1}, {Low: []uint64{0}}, {Full: 1}}
	m := of(taken(64) + free(100))
	l = append(l, m)
	for _, n := range []int{163, 165, 0, -164} {
		l = append(l, api.Bits{N: n, Low: m.Low, Full: m.Full})
	}
	for bit := range 64 {
		l = append(l, api.Bits{N: m.N, Low: m.Low, Full: m.Full ^ 1<<bit})
		for w := range m.Low {
			low := slices.Clone(m.Low)
			low[w] ^= 1 << bit
			l = append(l, api.Bits{N: m.N, Low: low, Full: m.Full})
		}
	}
	return append(l,
		api.Bits{N: m.N, Low: m.Low[:2], Full: m.Full},
		api.Bits{N: m.N, Low: m.Low[1:], Full: m.Full},
		api.Bits{N: m.N, Low: append(slices.Clone(m.Low), 0), Full: m.Full},
		api.Bits{N: m.N, Full: m.Full},
		api.Bits{N: m.N, Low: []uint64{m.Low[1], m.Low[0], m.Low[2]}, Full: m.Full},
	)
}

// P12.2 and P12.3

// Maps of all edges' numbers of places: of which nothing is taken, all is, but one is, and that are half so.
func TestCallsAtEdges(t *testing.T) {
	for _, n := range counts {
		for _, places := range []string{
			free(n),
			taken(n),
			"x" + free(n-1),
			free(n-1) + "x",
			"." + taken(n-1),
			taken(n-1) + ".",
			taken(n/2) + free(n-n/2),
			free(n/2) + taken(n-n/2),
			strings.Repeat("x.", n)[:n],
			strings.Repeat(".x", n)[:n],
			strings.Repeat("..x", n)[:n],
		} {
			checkEdges(t, places)
		}
	}
}

// Each place is set and freed by its own bit, and no other one changes.
func TestSetAndGetEachPlace(t *testing.T) {
	for _, n := range []int{1, 2, 63, 64, 65, 129} {
		for _, places := range []string{free(n), taken(n), strings.Repeat("x.", n)[:n]} {
			for i := range n {
				checkSet(t, places, i)
				checkGet(t, places, i)
			}
		}
	}
	for i := range 4096 {
		for _, take := range []bool{true, false} {
			places := strings.Repeat(map[bool]string{true: ".", false: "x"}[take], 4096)
			got, e := bitmap.Set(of(places), i, take)
			if !same(got, of(changed(places, i, take))) || e != api.OK {
				t.Fatalf("Set of 4096 places, %v, %v = %v, %v", i, take, got, e)
			}
			if is, e := bitmap.Get(got, i); is != take || e != api.OK {
				t.Fatalf("Get of %v = %v, %v, want %v", i, is, e, take)
			}
		}
	}
}

// A word becomes full with the last of its places that is taken, and is not full with the first one that is free, in whatever order.
func TestFullGoesWithTheLastPlace(t *testing.T) {
	for _, n := range []int{64, 65, 130, 4095, 4096} {
		r := rand.New(rand.NewSource(int64(n)))
		for _, take := range []bool{true, false} {
			places := taken(n)
			if take {
				places = free(n)
			}
			m := of(places)
			for _, i := range r.Perm(n) {
				places = changed(places, i, take)
				var e api.Errno
				if m, e = bitmap.Set(m, i, take); e != api.OK || !same(m, of(places)) {
					t.Fatalf("Set of %v of %v, %v = %v, %v", i, n, take, m, e)
				}
			}
		}
	}
}

// Each map of up to ten places, and all that may be asked of it.
func TestEachSmallMap(t *testing.T) {
	for n := 1; n <= 10; n++ {
		for bits := range 1 << n {
			b := []byte(free(n))
			for i := range b {
				if bits>>i&1 == 1 {
					b[i] = 'x'
				}
			}
			places := string(b)
			checkRight(t, places)
			for i := -1; i <= n; i++ {
				checkGet(t, places, i)
				checkSet(t, places, i)
				checkFind(t, places, i)
			}
			checkFind(t, places, n+1)
		}
	}
}

// Free places side by side that begin and end anywhere, in one word, or the next, or the one behind that; all else is taken.
func TestFindOfOneRun(t *testing.T) {
	for _, n := range []int{64, 100, 128, 150, 192, 200} {
		for from := range n {
			for to := from + 1; to <= n; to++ {
				places := taken(from) + free(to-from) + taken(n-to)
				for _, many := range []int{1, to - from, to - from + 1} {
					checkFind(t, places, many)
				}
			}
		}
	}
	for from := 0; from < 4096; from += 31 {
		for _, many := range []int{1, 63, 64, 65, 128, 129, 4096 - from} {
			if from+many <= 4096 {
				checkFinds(t, taken(from)+free(many)+taken(4096-from-many))
			}
		}
	}
}

// A run of just so many is found behind others that are one place too short, and ahead of others that are longer, at whatever edge of a word.
func TestFindPassesWhatIsTooShort(t *testing.T) {
	for _, many := range []int{2, 3, 31, 63, 64, 65, 66, 127, 128, 129, 130} {
		for from := range 66 {
			for _, between := range []int{1, 2, 63, 64, 65, 127, 128, 129} {
				short := free(from) + "x" + free(many-1) + taken(between)
				checkFind(t, short, many)
				checkFind(t, short+free(many), many)
				checkFind(t, short+free(many)+taken(between)+free(many+1), many)
				checkFind(t, short+free(many-1), many)
				checkFind(t, short+free(many)+"x", many+1)
			}
		}
	}
}

// Words that are full, free or half so, in each order of five, ahead of a last one of which a part is there.
func TestFindOfWordsInEachOrder(t *testing.T) {
	words := []string{free(64), taken(64), taken(40) + free(24), free(40) + taken(24)}
	var put func(ahead string, left int)
	put = func(ahead string, left int) {
		if left == 0 {
			for _, last := range []string{"", ".", "x", free(63), "x" + free(30)} {
				checkFinds(t, ahead+last)
				for _, many := range []int{24, 25, 40, 41, 64, 65, 88, 104, 128, 129, 168} {
					checkFind(t, ahead+last, many)
				}
			}
			return
		}
		for _, word := range words {
			put(ahead+word, left-1)
		}
	}
	put("", 5)
}

// P12.4

// What is found is free, all of it, and nothing ahead is: so many are taken as are found, one run behind the other, till there is no room, and then some are freed again.
func TestCallsOneBehindTheOther(t *testing.T) {
	for seed := range int64(30) {
		r := rand.New(rand.NewSource(seed))
		n := append([]int{70, 200, 500}, counts...)[r.Intn(len(counts)+3)]
		places := free(n)
		m, e := bitmap.New(n)
		if e != api.OK {
			t.Fatal(e)
		}
		for range 150 {
			m, places = step(t, r, m, places)
			if !same(m, of(places)) || !bitmap.Right(m) || !bitmap.Like(m, of(places)) {
				t.Fatalf("seed %v: %v, want %q", seed, m, places)
			}
			if many, e := bitmap.Count(m); many != strings.Count(places, "x") || e != api.OK {
				t.Fatalf("seed %v: Count of %q = %v, %v", seed, places, many, e)
			}
		}
	}
}

// step has as many places taken as are found, and where there is no room, some freed.
func step(t *testing.T, r *rand.Rand, m api.Bits, places string) (api.Bits, string) {
	t.Helper()
	many := 1 + r.Intn(1+len(places)/20)
	at, e := bitmap.Find(m, many)
	if want := strings.Index(places, free(many)); want < 0 {
		if at != 0 || e != api.ErrSpace {
			t.Fatalf("Find of %q, %v = %v, %v, want ErrSpace", places, many, at, e)
		}
		at = r.Intn(len(places) - many + 1)
	} else if at != want || e != api.OK {
		t.Fatalf("Find of %q, %v = %v, %v, want %v", places, many, at, e, want)
	}
	take := e == api.OK
	for i := at; i < at+many; i++ {
		was, e := bitmap.Get(m, i)
		if was != (places[i] == 'x') || e != api.OK {
			t.Fatalf("Get of %q, %v = %v, %v", places, i, was, e)
		}
		if m, e = bitmap.Set(m, i, take); e != api.OK {
			t.Fatalf("Set of %q, %v, %v = %v", places, i, take, e)
		}
		places = changed(places, i, take)
	}
	return m, places
}

// R4: no call changes the words that it was handed, nor what stands behind their end; and an answer's words are nobody else's.
func TestWordsAreNotChangedAndNotShared(t *testing.T) {
	for name, call := range map[string]func(m api.Bits) api.Bits{
		"New":                  func(m api.Bits) api.Bits { m, _ = bitmap.New(m.N); return m },
		"Right":                func(m api.Bits) api.Bits { bitmap.Right(m); return api.Bits{} },
		"Like":                 func(m api.Bits) api.Bits { bitmap.Like(m, m); return api.Bits{} },
		"Get":                  func(m api.Bits) api.Bits { bitmap.Get(m, 70); return api.Bits{} },
		"Count":                func(m api.Bits) api.Bits { bitmap.Count(m); return api.Bits{} },
		"Find":                 func(m api.Bits) api.Bits { bitmap.Find(m, 40); return api.Bits{} },
		"Find of no room":      func(m api.Bits) api.Bits { bitmap.Find(m, 200); return api.Bits{} },
		"Set, taken":           func(m api.Bits) api.Bits { m, _ = bitmap.Set(m, 70, true); return m },
		"Set, taken as it was": func(m api.Bits) api.Bits { m, _ = bitmap.Set(m, 3, true); return m },
		"Set, free":            func(m api.Bits) api.Bits { m, _ = bitmap.Set(m, 3, false); return m },
		"Set, free as it was":  func(m api.Bits) api.Bits { m, _ = bitmap.Set(m, 70, false); return m },
		"Set of no place":      func(m api.Bits) api.Bits { m, _ = bitmap.Set(m, 150, true); return m },
	} {
		want := of(taken(66) + free(84))
		words := append(slices.Clone(want.Low), 7, 8, 9)
		m := api.Bits{N: want.N, Low: words[:len(want.Low)], Full: want.Full}
		unchanged := func() bool { return same(m, want) && slices.Equal(words[len(want.Low):], []uint64{7, 8, 9}) }
		got := call(m)
		if !unchanged() {
			t.Errorf("%v changed a map", name)
		}
		was := slices.Clone(got.Low)
		again := call(m)
		clear(got.Low[:cap(got.Low)])
		if !unchanged() {
			t.Errorf("%v's answer is its argument's memory", name)
		}
		if !slices.Equal(again.Low, was) || again.N != got.N || again.Full != got.Full {
			t.Errorf("%v: %v, and then %v", name, was, again)
		}
	}
}
