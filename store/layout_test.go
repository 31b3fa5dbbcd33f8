package store_test

import (
	"math"
	"math/big"
	"math/rand"
	"strings"
	"testing"

	"saltus/api"
	"saltus/store"
)

// P21.1

// leastDisks are, of each quota from 2 on, the sectors of a record, and the least disk that has that quota, told by hand.
func leastDisks() [][2]int {
	return [][2]int{{2, 16}, {2, 17}, {3, 20}, {3, 21}, {4, 24}, {4, 25}, {5, 28}, {5, 29}, {6, 32}, {6, 33}, {7, 36}, {8, 39}, {8, 40}, {9, 43}, {9, 44}}
}

func TestLayout(t *testing.T) {
	for n := -100; n <= 200; n++ {
		checkLayout(t, n)
	}
	for _, n := range []int{math.MinInt, math.MinInt + 16, -1 << 32, 1<<8 + 16, 1<<16 + 16, 1<<32 + 16, 1<<32 + 64, math.MaxInt - 1, math.MaxInt} {
		checkLayout(t, n)
	}
}

// checkLayout holds what Layout tells of any number: that the sectors are enough for the quota, that fewer are not enough for a record, and that they are not enough for one more.
func checkLayout(t *testing.T, n int) {
	t.Helper()
	q, k, e := store.Layout(n)
	if n < 16 || n > 64 {
		if q != 0 || k != 0 || e != api.ErrSize {
			t.Errorf("Layout(%v) = %v, %v, %v, want ErrSize", n, q, k, e)
		}
		return
	}
	if e != api.OK || q < 1 || q > 16 {
		t.Fatalf("Layout(%v) = %v, %v, %v", n, q, k, e)
	}
	if 64*k < 34*q+10 || 64*(k-1) >= 34*q+10 || 2+2*k+q+8 > n {
		t.Errorf("Layout(%v) = %v, %v, which is not told of it", n, q, k)
	}
	for more := q + 1; more <= 16; more++ {
		if size := (34*more + 10 + 63) / 64; 2+2*size+more+8 <= n {
			t.Errorf("Layout(%v) = %v, but %v is greater", n, q, more)
		}
	}
}

func TestLayoutByHand(t *testing.T) {
	n := 16
	for i, x := range append(leastDisks(), [2]int{0, 65}) {
		for ; n < x[1]; n++ {
			if q, k, e := store.Layout(n); q != i+1 || k != leastDisks()[i-1][0] || e != api.OK {
				t.Errorf("Layout(%v) = %v, %v, %v, want %v, %v", n, q, k, e, i+1, leastDisks()[i-1][0])
			}
		}
	}
}

// The chapter's examples.
func TestExamples(t *testing.T) {
	for _, x := range [][3]int{{16, 2, 2}, {64, 16, 9}} {
		if q, k, e := store.Layout(x[0]); q != x[1] || k != x[2] || e != api.OK {
			t.Errorf("Layout(%v) = %v, %v, %v, want %v, %v", x[0], q, k, e, x[1], x[2])
		}
	}
}

const half = 1 << 32

// mayBe tells whether a slot may be here, in numbers of any size.
func mayBe(slot api.Trust) bool {
	if len(slot.Key) != 16 && len(slot.Key) != 32 {
		return false
	}
	upper := new(big.Int).Div(new(big.Int).SetUint64(slot.Count), big.NewInt(half))
	return slot.Boots < half && upper.Cmp(new(big.Int).SetUint64(slot.Boots)) <= 0
}

// slots are those at all edges at once.
func slots(see func(slot api.Trust)) {
	for _, size := range []int{0, 1, 15, 16, 17, 24, 31, 32, 33, 64} {
		for _, boots := range []uint64{0, 1, 2, 3, 1<<31 - 1, 1 << 31, half - 2, half - 1, half, half + 1, 1 << 63, math.MaxUint64} {
			for _, count := range []uint64{0, 1, 2, 3, half - 2, half - 1, half, half + 1, half + 2, boots*half - 2, boots*half - 1, boots * half, boots*half + 1, boots*half + 2, boots*half + half - 2, boots*half + half - 1, boots*half + half, boots*half + half + 1, 1 << 63, math.MaxUint64 - 1, math.MaxUint64} {
				see(api.Trust{Count: count, Boots: boots, Key: strings.Repeat("k", size)})
			}
		}
	}
}

func TestNext(t *testing.T) {
	many := 0
	slots(func(slot api.Trust) {
		checkNext(t, slot)
		if mayBe(slot) {
			many++
		}
	})
	if many < 100 {
		t.Errorf("only %v slots that may be", many)
	}
	r := rand.New(rand.NewSource(1))
	for range 20000 {
		boots := r.Uint64() >> (32 + r.Intn(32))
		checkNext(t, api.Trust{Count: r.Uint64() >> r.Intn(64), Boots: boots, Key: strings.Repeat("k", 16)})
		checkNext(t, api.Trust{Count: boots*half + r.Uint64()>>32, Boots: boots, Key: strings.Repeat("k", 32)})
	}
}

// checkNext holds Next of any slot; and that a number is odd behind an even one, and even behind an odd one.
func checkNext(t *testing.T, slot api.Trust) {
	t.Helper()
	got, e := store.Next(slot)
	if !mayBe(slot) {
		if got != 0 || e != api.ErrArg {
			t.Errorf("Next of a slot %v = %x, %v, want ErrArg", told(slot), got, e)
		}
		return
	}
	if want := nextOf(slot); got != want || e != api.OK || got%2 == slot.Count%2 {
		t.Errorf("Next of a slot %v = %x, %v, want %x", told(slot), got, e, want)
	}
}

func TestNextByHand(t *testing.T) {
	for _, x := range []struct{ count, boots, want uint64 }{
		{0, 0, 1},
		{1, 0, 2},
		{half - 1, 0, half},
		{0, 1, half + 1},
		{1, 1, half + 2},
		{half - 1, 1, half + 2},
		{half, 1, half + 1},
		{half + 1, 1, half + 2},
		{half + 2, 1, half + 3},
		{half + 1, 2, 2*half + 2},
		{half + 2, 2, 2*half + 1},
		{half + 2, 7, 7*half + 1},
		{2*half - 1, 1, 2 * half},
		{2*half - 1, 2, 2*half + 2},
		{0, half - 1, math.MaxUint64 - half + 2},
		{math.MaxUint64 - 1, half - 1, math.MaxUint64},
		{math.MaxUint64, half - 1, 0},
	} {
		slot := api.Trust{Count: x.count, Boots: x.boots, Key: "a key, 16 bytes."}
		if got, e := store.Next(slot); got != x.want || e != api.OK {
			t.Errorf("Next of a slot %v = %x, %v, want %x", told(slot), got, e, x.want)
		}
	}
	for _, x := range []struct{ count, boots uint64 }{{half, 0}, {2 * half, 1}, {2*half + 1, 1}, {math.MaxUint64, half - 2}, {math.MaxUint64, 0}, {0, half}, {0, math.MaxUint64}} {
		slot := api.Trust{Count: x.count, Boots: x.boots, Key: "a key, 16 bytes."}
		if got, e := store.Next(slot); got != 0 || e != api.ErrArg {
			t.Errorf("Next of a slot %v = %x, %v, want ErrArg", told(slot), got, e)
		}
	}
}
