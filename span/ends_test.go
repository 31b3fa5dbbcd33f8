package span

import (
	"math"
	"testing"

	"saltus/api"
)

func TestEndsOfAllNumbersAreNoSpan(t *testing.T) {
	if s, e := (ends{0, math.MaxUint64}).span(); s != (api.Span{}) || e != api.ErrRange {
		t.Error(s, e)
	}
}

// An iterator that is left must not go on: Go would tell that by a panic.
func TestJoinedMayBeLeft(t *testing.T) {
	apart := []ends{{0, 1}, {5, 6}, {9, 9}}
	many := 0
	for x := range joined(apart) {
		if x != apart[many] {
			t.Error(x)
		}
		many++
		if many == 2 {
			break
		}
	}
	if many != 2 {
		t.Error(many)
	}
}
