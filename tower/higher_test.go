package tower

import (
	"math"
	"slices"
	"testing"
)

// Words of each number of bits 0 at their end, whatever stands ahead of these; of 0, which no key is known to tell.
func TestHeightOf(t *testing.T) {
	if got := heightOf(0); got != 8 {
		t.Errorf("heightOf(0) = %v, want 8", got)
	}
	for times := range 64 {
		want := min(times+1, 8)
		for _, word := range []uint64{1 << times, 1<<63 | 1<<times, math.MaxUint64 << times, 0x5555555555555555 << times, 0x0123456789abcdef << times} {
			if got := heightOf(word); got != want {
				t.Errorf("heightOf(%x) = %v, want %v", word, got, want)
			}
		}
	}
}

// Each word of 16 bits, at the lower end and at the upper one, divided by 2 one by one.
func TestHeightOfEachShortWord(t *testing.T) {
	for word := uint64(1); word < 1<<16; word++ {
		want := 1
		for left := word; left%2 == 0 && want < 8; left /= 2 {
			want++
		}
		if got := heightOf(word); got != want {
			t.Errorf("heightOf(%x) = %v, want %v", word, got, want)
		}
		if got := heightOf(word << 48); got != 8 {
			t.Errorf("heightOf(%x) = %v, want 8", word<<48, got)
		}
	}
}

// An iterator that is left must not go on: Go would tell that by a panic. Begun anew, it begins at the first one.
func TestHigherMayBeLeft(t *testing.T) {
	const key = "a key"
	numbers := []uint64{9, 5, 9, 18, 65, 9, 146}
	want := []int{1, 3, 4, 6}
	all := higher(key, numbers, 2)
	for leave := 1; leave <= len(want); leave++ {
		var got []int
		for at := range all {
			got = append(got, at)
			if len(got) == leave {
				break
			}
		}
		if !slices.Equal(got, want[:leave]) {
			t.Errorf("%v, want %v", got, want[:leave])
		}
	}
}
