package tower_test

import (
	"crypto/hmac"
	"crypto/sha256"
	"encoding/binary"
	"math/big"
	"math/rand"
	"slices"
	"testing"

	"saltus/api"
	"saltus/tower"
)

// The tests here hold the calls against the chapter's words told in another way: a key's number by the library's HMAC, how often it can be divided by whole numbers' division.

// wordOf is a key's number for a number's bytes.
func wordOf(key string, n uint64) *big.Int {
	h := hmac.New(sha256.New, []byte(key))
	h.Write(binary.LittleEndian.AppendUint64(nil, n))
	first := h.Sum(nil)[:8]
	slices.Reverse(first)
	return new(big.Int).SetBytes(first)
}

// timesOf is how often a word that is not 0 can be divided by 2 without a rest.
func timesOf(word *big.Int) int {
	two, left, rest := big.NewInt(2), new(big.Int).Set(word), new(big.Int)
	for times := 0; ; times++ {
		if left.QuoRem(left, two, rest); rest.Sign() != 0 {
			return times
		}
	}
}

// told is what a number's height should be.
func told(key string, n uint64) int {
	word := wordOf(key, n)
	if word.Sign() == 0 || timesOf(word) > 7 {
		return 8
	}
	return timesOf(word) + 1
}

// toldAll are what several numbers' heights should be.
func toldAll(key string, l []uint64) []int {
	var heights []int
	for _, n := range l {
		heights = append(heights, told(key, n))
	}
	return heights
}

// above are the places of the heights that are more than a level.
func above(heights []int, level int) []int {
	var places []int
	for at, height := range heights {
		if height > level {
			places = append(places, at)
		}
	}
	return places
}

// checkHeight holds P15.1 of one number; and P15.3: it is 1 to 8.
func checkHeight(t *testing.T, key string, n uint64) {
	t.Helper()
	want := told(key, n)
	got := tower.Height(key, n)
	if got != want {
		t.Errorf("Height by %v of %v = %v, want %v", show(key), n, got, want)
	}
	if got < 1 || got > 8 {
		t.Errorf("Height by %v of %v = %v", show(key), n, got)
	}
}

// checkList holds all promises of a list: its heights, and who is above each level.
func checkList(t *testing.T, key string, l []uint64) {
	t.Helper()
	want := toldAll(key, l)
	if got := tower.Heights(key, l); !slices.Equal(got, want) {
		t.Errorf("Heights by %v of %v = %v, want %v", show(key), l, got, want)
	}
	times := make([]int, len(l))
	lower := everyPlace(l)
	for level := 0; level <= 8; level++ {
		got, e := tower.Above(key, l, level)
		if !slices.Equal(got, above(want, level)) || e != api.OK {
			t.Errorf("Above by %v of %v, level %v = %v, %v, want %v", show(key), l, level, got, e, above(want, level))
		}
		if !areRising(got) || !areIn(got, lower) {
			t.Errorf("Above by %v of %v, level %v = %v, of the lower level %v", show(key), l, level, got, lower)
		}
		for _, at := range got {
			times[at]++
		}
		lower = got
	}
	if first, _ := tower.Above(key, l, 0); !slices.Equal(first, everyPlace(l)) {
		t.Errorf("Above by %v of %v, level 0 = %v", show(key), l, first)
	}
	if len(lower) != 0 {
		t.Errorf("Above by %v of %v, level 8 = %v", show(key), l, lower)
	}
	if !slices.Equal(times, want) {
		t.Errorf("by %v, %v are above %v levels, want %v", show(key), l, times, want)
	}
}

// checkRange holds P15.2 of a level that is none: no places stand beside the error.
func checkRange(t *testing.T, key string, l []uint64, level int) {
	t.Helper()
	if got, e := tower.Above(key, l, level); len(got) != 0 || e != api.ErrRange {
		t.Errorf("Above by %v of %v numbers, level %v = %v, %v, want ErrRange", show(key), len(l), level, got, e)
	}
}

// everyPlace are a list's places.
func everyPlace(l []uint64) []int {
	var places []int
	for at := range l {
		places = append(places, at)
	}
	return places
}

// areRising tells whether each place is more than the one ahead of it.
func areRising(places []int) bool {
	for i := 1; i < len(places); i++ {
		if places[i-1] >= places[i] {
			return false
		}
	}
	return true
}

// areIn tells whether each place is one of some others.
func areIn(places, others []int) bool {
	for _, at := range places {
		if !slices.Contains(others, at) {
			return false
		}
	}
	return true
}

func TestHeightsByKeysOfEachSize(t *testing.T) {
	for size := range 3 * 64 {
		for _, key := range []string{of(size), filled(0, size), filled(0xff, size)} {
			checkList(t, key, []uint64{0, 1, 258, 1 << 32, 1<<64 - 1})
		}
	}
	for _, size := range []int{255, 256, 257, 4096, 5000, 1 << 16, 1<<20 + 1} {
		checkHeight(t, of(size), 258)
		checkHeight(t, filled(0, size), 258)
	}
}

// Each byte is a key as any other, and counts wherever it stands.
func TestHeightsByKeysOfEachByte(t *testing.T) {
	for b := 1; b < 256; b++ {
		one := filled(byte(b), 1)
		for _, key := range []string{one, "a" + one + "a", one + "a", "\x00" + one, of(63) + one, of(64) + one} {
			checkList(t, key, []uint64{0, 258, 1<<64 - 1})
		}
	}
}

// Each of a number's bits counts, wherever it stands.
func TestHeightsOfEachBit(t *testing.T) {
	for bit := range 64 {
		for _, key := range keys {
			checkHeight(t, key, 1<<bit)
			checkHeight(t, key, 1<<bit-1)
			checkHeight(t, key, ^uint64(1<<bit))
		}
	}
}

// Each height is met, and so are numbers whose key's number can be divided oftener than any height tells.
func TestManyNumbers(t *testing.T) {
	for _, key := range []string{"", "a key", of(32), of(65)} {
		var met [9]int
		oftener := 0
		for n := range uint64(3000) {
			checkHeight(t, key, n)
			met[tower.Height(key, n)]++
			if timesOf(wordOf(key, n)) > 7 {
				oftener++
			}
		}
		for height := 1; height <= 8; height++ {
			if met[height] == 0 {
				t.Errorf("by %v no number has height %v", show(key), height)
			}
		}
		if oftener == 0 {
			t.Errorf("by %v no key's number can be divided 8 times", show(key))
		}
	}
}

// Lists at random, of numbers of all sizes, some of them more than once, by keys at random.
func TestListsAtRandom(t *testing.T) {
	for seed := range int64(200) {
		r := rand.New(rand.NewSource(seed))
		key := of(r.Intn(100))
		l := make([]uint64, r.Intn(65))
		for i := range l {
			l[i] = r.Uint64() >> r.Intn(64)
			if r.Intn(4) == 0 {
				l[i] = l[r.Intn(i+1)]
			}
		}
		checkList(t, key, l)
		checkRange(t, key, l, -1-r.Intn(1<<40))
		checkRange(t, key, l, 9+r.Intn(1<<40))
	}
}

// A long list, longer than any that another layer makes.
func TestLongList(t *testing.T) {
	l := make([]uint64, 1500)
	for i := range l {
		l[i] = uint64(i) * 0x9e3779b97f4a7c15
	}
	checkList(t, "a key", l)
}

// P1: no call panics at any arguments, and all are as told here.
func FuzzTower(f *testing.F) {
	f.Add("", uint64(0), uint64(1), "", 0)
	f.Add("a key", uint64(146), uint64(130), "\x01\x02", 7)
	f.Add(of(65), uint64(1<<64-1), uint64(9), "\x00\xff", -1)
	f.Add("\xff\x00", uint64(9), uint64(9), of(64), 9)
	f.Fuzz(func(t *testing.T, key string, a, b uint64, bytes string, level int) {
		l := []uint64{a, b, a}
		for i := range len(bytes) {
			l = append(l, uint64(bytes[i]))
		}
		checkHeight(t, key, a)
		checkList(t, key, l)
		if level < 0 || level > 8 {
			checkRange(t, key, l, level)
		}
	})
}
