package ring

import (
	"slices"
	"testing"

	"saltus/api"
)

// Behind the last slot comes the first one, up to ahead of the end.
func TestTurned(t *testing.T) {
	r := api.Ring{Slots: make([]string, 5), From: 3}
	for _, c := range []struct {
		first, end int
		want       []int
	}{
		{0, 5, []int{3, 4, 0, 1, 2}},
		{0, 0, nil},
		{0, 2, []int{3, 4}},
		{2, 5, []int{0, 1, 2}},
		{1, 3, []int{4, 0}},
		{5, 5, nil},
	} {
		if got := slices.Collect(turned(r, c.first, c.end)); !slices.Equal(got, c.want) {
			t.Errorf("from %v up to %v: %v, want %v", c.first, c.end, got, c.want)
		}
	}
}

// An iterator that is left must not go on: Go would tell that by a panic. Begun anew, it begins at the first one.
func TestTurnedMayBeLeft(t *testing.T) {
	all := turned(api.Ring{Slots: make([]string, 4), From: 2}, 0, 4)
	for leave := 1; leave <= 4; leave++ {
		var got []int
		for at := range all {
			got = append(got, at)
			if len(got) == leave {
				break
			}
		}
		if want := []int{2, 3, 0, 1}[:leave]; !slices.Equal(got, want) {
			t.Errorf("%v, want %v", got, want)
		}
	}
}
