package ring_test

import (
	"fmt"
	"math"
	"math/rand"
	"slices"
	"strings"
	"testing"

	"saltus/api"
	"saltus/ring"
)

// A ring is told here in another way: as its texts, and where they begin; its slots are these texts and the empty ones behind them, turned as a whole.

// of is the ring of so many slots with some texts from a slot on.
func of(n, from int, texts []string) api.Ring {
	straight := slices.Concat(texts, make([]string, n-len(texts)))
	slots := slices.Concat(straight[n-from:], straight[:n-from])
	return api.Ring{Slots: slots, From: from, Many: len(texts)}
}

// told are a ring's texts, and whether it may be: they are looked for in its slots, told twice, one behind the other.
func told(r api.Ring) ([]string, bool) {
	n := len(r.Slots)
	if n < 1 || n > 64 || r.From < 0 || r.From >= n || r.Many < 0 || r.Many > n {
		return nil, false
	}
	straight := slices.Concat(r.Slots, r.Slots)[r.From : r.From+n]
	texts, others := straight[:r.Many], straight[r.Many:]
	return texts, strings.Join(others, "") == ""
}

// placed is where texts that begin at a slot have begun some slots ahead, counted one by one.
func placed(n, from, behind int) int {
	for range behind {
		from++
		if from == n {
			from = 0
		}
	}
	return from
}

// same tells whether two rings are the same, slot by slot.
func same(a, b api.Ring) bool {
	if a.From != b.From || a.Many != b.Many || len(a.Slots) != len(b.Slots) {
		return false
	}
	for at := range a.Slots {
		if a.Slots[at] != b.Slots[at] {
			return false
		}
	}
	return true
}

// isNothing tells whether a ring is the one that stands beside an error.
func isNothing(r api.Ring) bool { return r.From == 0 && r.Many == 0 && len(r.Slots) == 0 }

// show is a ring as text, for what a test tells; of a great one, its beginning.
func show(r api.Ring) string {
	slots := fmt.Sprintf("%.40q", r.Slots)
	return fmt.Sprintf("From %v Many %v %.300v", r.From, r.Many, slots)
}

// kept is a ring of slots of its own.
func kept(r api.Ring) api.Ring {
	r.Slots = slices.Clone(r.Slots)
	return r
}

// checkRight holds P14.1's Right, and that a ring that may not be is told by each call, and one that may be is as its texts have it.
func checkRight(t *testing.T, r api.Ring) {
	t.Helper()
	texts, may := told(r)
	if got := ring.Right(r); got != may {
		t.Errorf("Right(%v) = %v", show(r), got)
	}
	if !may {
		checkIsArg(t, r)
		return
	}
	if got, e := ring.Items(r); !slices.Equal(got, texts) || e != api.OK {
		t.Errorf("Items(%v) = %.80q, %v, want %.80q", show(r), got, e, texts)
	}
}

// checkIsArg holds that each call of a ring that may not be tells ErrArg, whatever else is wrong, and nothing beside it.
func checkIsArg(t *testing.T, r api.Ring) {
	t.Helper()
	if ring.Right(r) {
		t.Errorf("Right(%v) = true", show(r))
	}
	for _, s := range []string{"", "a"} {
		if got, e := ring.Push(r, s); !isNothing(got) || e != api.ErrArg {
			t.Errorf("Push(%v, %q) = %v, %v, want ErrArg", show(r), s, show(got), e)
		}
	}
	for _, n := range []int{math.MinInt, -1, 0, 1, r.Many, r.Many + 1, math.MaxInt} {
		if got, e := ring.Drop(r, n); !isNothing(got) || e != api.ErrArg {
			t.Errorf("Drop(%v, %v) = %v, %v, want ErrArg", show(r), n, show(got), e)
		}
	}
	if got, e := ring.Items(r); len(got) != 0 || e != api.ErrArg {
		t.Errorf("Items(%v) = %.80q, %v, want ErrArg", show(r), got, e)
	}
}

// checkPush holds P14.2's Push of a ring that may be, and that what is answered may be, with its texts.
func checkPush(t *testing.T, n, from int, texts []string, s string) {
	t.Helper()
	r := of(n, from, texts)
	got, e := ring.Push(r, s)
	if len(texts) == n {
		if !isNothing(got) || e != api.ErrSpace {
			t.Errorf("Push(%v, %.40q) = %v, %v, want ErrSpace", show(r), s, show(got), e)
		}
		return
	}
	want := of(n, from, append(slices.Clone(texts), s))
	if !same(got, want) || e != api.OK {
		t.Errorf("Push(%v, %.40q) = %v, %v, want %v", show(r), s, show(got), e, show(want))
	}
	checkRight(t, got)
}

// checkDrop holds P14.2's Drop of a ring that may be, and that what is answered may be, with its texts.
func checkDrop(t *testing.T, n, from int, texts []string, many int) {
	t.Helper()
	r := of(n, from, texts)
	got, e := ring.Drop(r, many)
	if many < 0 || many > len(texts) {
		if !isNothing(got) || e != api.ErrRange {
			t.Errorf("Drop(%v, %v) = %v, %v, want ErrRange", show(r), many, show(got), e)
		}
		return
	}
	want := of(n, placed(n, from, many), texts[many:])
	if !same(got, want) || e != api.OK {
		t.Errorf("Drop(%v, %v) = %v, %v, want %v", show(r), many, show(got), e, show(want))
	}
	checkRight(t, got)
}

// checkDrops holds Drop at a ring's edges.
func checkDrops(t *testing.T, n, from int, texts []string) {
	t.Helper()
	for _, many := range []int{math.MinInt, math.MinInt + 1, -n, -1, 0, 1, 2, len(texts) - 1, len(texts), len(texts) + 1, n, n + 1, 64, 65, 1 << 32, 1<<32 + 1, math.MaxInt - from, math.MaxInt} {
		checkDrop(t, n, from, texts, many)
	}
}

// checkAll holds all calls of a ring that may be.
func checkAll(t *testing.T, n, from int, texts []string) {
	t.Helper()
	r := of(n, from, texts)
	checkRight(t, r)
	for _, s := range []string{"", "p", "\xff\x00\xc0", strings.Repeat("q", 5000)} {
		checkPush(t, n, from, texts, s)
	}
	checkDrops(t, n, from, texts)
	if !ring.Like(r, r) || !ring.Like(r, kept(r)) {
		t.Errorf("Like of %v and itself = false", show(r))
	}
}

// lists has see each list of up to so many of some texts.
func lists(of []string, many int, ahead []string, see func(texts []string)) {
	see(ahead)
	if many == 0 {
		return
	}
	for _, s := range of {
		lists(of, many-1, append(slices.Clone(ahead), s), see)
	}
}

// Each ring of up to five slots with each list of three texts from each slot on, and all that may be asked of it.
func TestEachSmallRing(t *testing.T) {
	for n := 1; n <= 5; n++ {
		lists([]string{"", "a", "b"}, n, nil, func(texts []string) {
			for from := range n {
				checkRight(t, of(n, from, texts))
				checkPush(t, n, from, texts, "")
				checkPush(t, n, from, texts, "a")
				for many := -1; many <= n+1; many++ {
					checkDrop(t, n, from, texts, many)
				}
			}
		})
	}
}

// Rings of up to five slots, each slot empty or not, with all that From and Many may be or nearly: those that may be are told, and no others.
func TestEachSmallRingThatMayNotBe(t *testing.T) {
	for n := range 6 {
		lists([]string{"", "a"}, n, nil, func(slots []string) {
			for from := -n - 1; from <= 2*n+1; from++ {
				for many := -n - 1; many <= 2*n+1; many++ {
					checkRight(t, api.Ring{Slots: slots, From: from, Many: many})
				}
			}
		})
	}
}

// Like tells of each two of all small rings what holding them slot by slot tells.
func TestLikeOfEachTwoSmallRings(t *testing.T) {
	var all []api.Ring
	for from := range 3 {
		for many := range 4 {
			lists([]string{"", "a", "b"}, 3, nil, func(slots []string) {
				all = append(all, api.Ring{Slots: slots, From: from, Many: many})
			})
		}
	}
	for _, a := range all {
		for _, b := range all {
			if got := ring.Like(a, b); got != same(a, b) {
				t.Fatalf("Like(%v, %v) = %v", show(a), show(b), got)
			}
		}
	}
}

// P14.3: texts come out as they were pushed, over runs of Push and Drop that go round the end many times; a ring that may be stays one.
func TestPushAndDropOneBehindTheOther(t *testing.T) {
	for seed := range int64(60) {
		r := rand.New(rand.NewSource(seed))
		n := []int{1, 2, 3, 5, 31, 63, 64}[r.Intn(7)]
		from, texts := 0, []string(nil)
		got, e := ring.New(n)
		if e != api.OK {
			t.Fatal(e)
		}
		for range 600 {
			many := r.Intn(n + 2)
			if r.Intn(2) == 0 {
				got, texts = pushed(t, r, got, texts, many)
			} else {
				got, from, texts = dropped(t, got, from, texts, many)
			}
			if !same(got, of(n, from, texts)) || !ring.Like(got, of(n, from, texts)) {
				t.Fatalf("seed %v: %v, want %.200q from %v", seed, show(got), texts, from)
			}
			checkRight(t, got)
		}
	}
}

// pushed is a ring with so many texts more, as far as there is room.
func pushed(t *testing.T, r *rand.Rand, got api.Ring, texts []string, many int) (api.Ring, []string) {
	t.Helper()
	for range many {
		s := strings.Repeat(string(byte(r.Intn(256))), r.Intn(4))
		next, e := ring.Push(got, s)
		if len(texts) == len(got.Slots) {
			if e != api.ErrSpace {
				t.Fatalf("Push to %v of %v = %v, want ErrSpace", len(texts), len(got.Slots), e)
			}
			return got, texts
		}
		if e != api.OK {
			t.Fatalf("Push to %v of %v = %v", len(texts), len(got.Slots), e)
		}
		got, texts = next, append(slices.Clone(texts), s)
	}
	return got, texts
}

// dropped is a ring without so many texts, where it has them.
func dropped(t *testing.T, got api.Ring, from int, texts []string, many int) (api.Ring, int, []string) {
	t.Helper()
	next, e := ring.Drop(got, many)
	if many > len(texts) {
		if e != api.ErrRange {
			t.Fatalf("Drop of %v of %v = %v, want ErrRange", many, len(texts), e)
		}
		return got, from, texts
	}
	if e != api.OK {
		t.Fatalf("Drop of %v of %v = %v", many, len(texts), e)
	}
	return next, placed(len(got.Slots), from, many), texts[many:]
}

// P1: no call panics at any arguments, and all are as told here.
func FuzzRing(f *testing.F) {
	f.Add("a\nb\n", 0, 2, "c", 1)
	f.Add("b\n\na", 2, 2, "", 2)
	f.Add("", math.MinInt, math.MaxInt, "a", math.MinInt)
	f.Add(strings.Repeat("a\n", 64), 0, 64, "a", 64)
	f.Fuzz(func(t *testing.T, lines string, from, many int, s string, n int) {
		r := api.Ring{Slots: strings.Split(lines, "\n"), From: from, Many: many}
		checkRight(t, r)
		if texts, may := told(r); may {
			checkPush(t, len(r.Slots), from, texts, s)
			checkDrop(t, len(r.Slots), from, texts, n)
		}
		ring.New(n)
		ring.Like(r, api.Ring{Slots: r.Slots, From: n, Many: many})
	})
}
