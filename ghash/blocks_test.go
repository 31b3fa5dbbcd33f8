package ghash

import (
	"slices"
	"testing"
)

// An iterator that is left must not go on: Go would tell that by a panic.
func TestBlocksMayBeLeft(t *testing.T) {
	head, text := string(make([]byte, 33)), "two blocks of a text"
	all := slices.Collect(blocks(head, text))
	if len(all) != 6 {
		t.Fatal(len(all))
	}
	for most := range len(all) {
		var l []polynomial
		for p := range blocks(head, text) {
			l = append(l, p)
			if len(l) > most {
				break
			}
		}
		if !slices.Equal(l, all[:most+1]) {
			t.Error(most, l)
		}
	}
}
