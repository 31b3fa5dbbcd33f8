package device

import (
	"testing"

	"saltus/api"
)

// An iterator that is left must not go on: Go would tell that by a panic.
func TestKeptMayBeLeft(t *testing.T) {
	cache := []api.Put{{At: 4, Data: "a"}, {At: 2, Data: "b"}, {At: 4, Data: "c"}, {At: 1, Data: "d"}}
	for leave := 1; leave <= 3; leave++ {
		want := []api.Put{cache[0], cache[2], cache[3]}
		many := 0
		for at, data := range kept(cache, 0b1101) {
			if (api.Put{At: at, Data: data}) != want[many] {
				t.Errorf("%v: %v, %q, want %v", many, at, data, want[many])
			}
			many++
			if many == leave {
				break
			}
		}
		if many != leave {
			t.Errorf("%v were told ahead of leaving, want %v", many, leave)
		}
	}
}
