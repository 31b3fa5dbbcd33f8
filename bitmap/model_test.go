package bitmap_test

import (
	"math"
	"strings"
	"testing"

	"saltus/api"
	"saltus/bitmap"
)

// A map is told here in another way: as a text with a byte for each place, x where it is taken, and . where it is free.

// free is a text of so many free places, taken one of so many that are taken.
func free(many int) string  { return strings.Repeat(".", many) }
func taken(many int) string { return strings.Repeat("x", many) }

// of is the map of a text, bit by bit.
func of(places string) api.Bits {
	m := api.Bits{N: len(places)}
	for from := 0; from < len(places); from += 64 {
		var word uint64
		for i := range 64 {
			if from+i >= len(places) || places[from+i] == 'x' {
				word += 1 << i
			}
		}
		m.Low = append(m.Low, word)
		if word == math.MaxUint64 {
			m.Full += 1 << (from / 64)
		}
	}
	return m
}

// changed is a text with a place of it taken, or free.
func changed(places string, i int, take bool) string {
	b := []byte(places)
	b[i] = '.'
	if take {
		b[i] = 'x'
	}
	return string(b)
}

// room is how many free places a text has side by side, at most.
func room(places string) int {
	most := 0
	for _, run := range strings.Split(places, "x") {
		most = max(most, len(run))
	}
	return most
}

// same tells whether two maps are the same, word by word.
func same(a, b api.Bits) bool {
	if a.N != b.N || a.Full != b.Full || len(a.Low) != len(b.Low) {
		return false
	}
	for w := range a.Low {
		if a.Low[w] != b.Low[w] {
			return false
		}
	}
	return true
}

// isNothing tells whether a map is the one that stands beside an error.
func isNothing(m api.Bits) bool { return m.N == 0 && len(m.Low) == 0 && m.Full == 0 }

// checkRight holds that a text's map may be, and is as many places taken as the text's.
func checkRight(t *testing.T, places string) {
	t.Helper()
	m := of(places)
	if !bitmap.Right(m) {
		t.Errorf("Right of %q = false", places)
	}
	if got, e := bitmap.Count(m); got != strings.Count(places, "x") || e != api.OK {
		t.Errorf("Count of %q = %v, %v", places, got, e)
	}
}

// checkGet holds what Get tells of a number.
func checkGet(t *testing.T, places string, i int) {
	t.Helper()
	got, e := bitmap.Get(of(places), i)
	if i < 0 || i >= len(places) {
		if got || e != api.ErrRange {
			t.Errorf("Get of %q, %v = %v, %v, want ErrRange", places, i, got, e)
		}
		return
	}
	if got != (places[i] == 'x') || e != api.OK {
		t.Errorf("Get of %q, %v = %v, %v", places, i, got, e)
	}
}

// checkSet holds what Set tells of a number, both ways, and that what it answers may be and is set once more to the same.
func checkSet(t *testing.T, places string, i int) {
	t.Helper()
	for _, take := range []bool{true, false} {
		got, e := bitmap.Set(of(places), i, take)
		if i < 0 || i >= len(places) {
			if !isNothing(got) || e != api.ErrRange {
				t.Errorf("Set of %q, %v, %v = %v, %v, want ErrRange", places, i, take, got, e)
			}
			continue
		}
		want := of(changed(places, i, take))
		if !same(got, want) || e != api.OK || !bitmap.Right(got) {
			t.Errorf("Set of %q, %v, %v = %v, %v, want %v", places, i, take, got, e, want)
			continue
		}
		if again, e := bitmap.Set(got, i, take); !same(again, want) || e != api.OK {
			t.Errorf("Set of %q, %v, %v, twice = %v, %v, want %v", places, i, take, again, e, want)
		}
	}
}

// checkFind holds what Find tells of a number.
func checkFind(t *testing.T, places string, many int) {
	t.Helper()
	got, e := bitmap.Find(of(places), many)
	at, want := 0, api.OK
	switch {
	case many < 1:
		want = api.ErrSize
	case many > room(places):
		want = api.ErrSpace
	default:
		at = strings.Index(places, free(many))
	}
	if got != at || e != want {
		t.Errorf("Find of %q, %v = %v, %v, want %v, %v", places, many, got, e, at, want)
	}
}

// checkFinds holds what Find tells at a text's edges: as many as there is room for, one more, and all places.
func checkFinds(t *testing.T, places string) {
	t.Helper()
	most := room(places)
	for _, many := range []int{math.MinInt, -1, 0, 1, 2, most - 1, most, most + 1, len(places) - 1, len(places), len(places) + 1, math.MaxInt - 1, math.MaxInt} {
		checkFind(t, places, many)
	}
}

// checkEdges holds what all calls tell of a text, at its edges.
func checkEdges(t *testing.T, places string) {
	t.Helper()
	checkRight(t, places)
	checkFinds(t, places)
	n := len(places)
	for _, i := range []int{math.MinInt, -64, -1, 0, 1, 62, 63, 64, 65, n / 2, n - 64, n - 1, n, n + 1, (n + 63) / 64 * 64, math.MaxInt} {
		checkGet(t, places, i)
		checkSet(t, places, i)
	}
}
