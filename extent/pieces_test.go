package extent

import (
	"iter"
	"slices"
	"testing"

	"saltus/api"
)

// checkLeft holds that an iterator tells some runs, that it does not go on when it is left (Go would tell that by a panic), and that it begins anew at the first one.
func checkLeft(t *testing.T, all iter.Seq[api.Run], want []api.Run) {
	t.Helper()
	if got := slices.Collect(all); !slices.Equal(got, want) {
		t.Errorf("%v, want %v", got, want)
	}
	for leave := 1; leave <= len(want); leave++ {
		var got []api.Run
		for r := range all {
			got = append(got, r)
			if len(got) == leave {
				break
			}
		}
		if !slices.Equal(got, want[:leave]) {
			t.Errorf("left: %v, want %v", got, want[:leave])
		}
	}
}

// Those that touch in one state are made one, however many; those in two states are not, nor those with a block between, and one by itself is as it was.
func TestJoined(t *testing.T) {
	checkLeft(t, joined(nil), nil)
	checkLeft(t, joined([]api.Run{{From: 7, Len: 1, State: 2}}), []api.Run{{From: 7, Len: 1, State: 2}})
	checkLeft(t, joined([]api.Run{
		{From: 0, Len: 2, State: 1}, {From: 2, Len: 1, State: 1},
		{From: 3, Len: 4, State: 2},
		{From: 8, Len: 1, State: 2}, {From: 9, Len: 1, State: 2}, {From: 10, Len: 5, State: 2},
		{From: 15, Len: 1, State: 1},
		{From: 17, Len: 1, State: 1}, {From: 18, Len: 2, State: 1},
	}), []api.Run{
		{From: 0, Len: 3, State: 1}, {From: 3, Len: 4, State: 2}, {From: 8, Len: 7, State: 2}, {From: 15, Len: 1, State: 1}, {From: 17, Len: 3, State: 1},
	})
}

// Holes stand ahead of runs, between them and behind them, where there are blocks; and only there.
func TestEverywhere(t *testing.T) {
	checkLeft(t, everywhere(nil), []api.Run{{From: 0, Len: api.Blocks}})
	whole := []api.Run{{From: 0, Len: api.Blocks, State: 1}}
	checkLeft(t, everywhere(whole), whole)
	checkLeft(t, everywhere([]api.Run{{From: 1, Len: 2, State: 1}, {From: 3, Len: 1, State: 2}, {From: 9, Len: 1, State: 2}}), []api.Run{
		{From: 0, Len: 1}, {From: 1, Len: 2, State: 1}, {From: 3, Len: 1, State: 2}, {From: 4, Len: 5}, {From: 9, Len: 1, State: 2}, {From: 10, Len: api.Blocks - 10},
	})
	checkLeft(t, everywhere([]api.Run{{From: 0, Len: 1, State: 2}, {From: api.Blocks - 1, Len: 1, State: 1}}), []api.Run{
		{From: 0, Len: 1, State: 2}, {From: 1, Len: api.Blocks - 2}, {From: api.Blocks - 1, Len: 1, State: 1},
	})
}
