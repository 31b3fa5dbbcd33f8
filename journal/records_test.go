package journal

import "testing"

// An iterator that is left must not go on: Go would tell that by a panic. Begun anew, it begins at the first one.
func TestRecordsMayBeLeft(t *testing.T) {
	const key, first = "a key", "first"
	texts := []string{"a", "", "b", ""}
	log, e := Write(key, first, texts)
	if e != 0 {
		t.Fatal(e)
	}
	all := records(key, Start(key, first), log)
	for leave := 1; leave <= len(texts); leave++ {
		many, last := 0, Start(key, first)
		for s, number := range all {
			_, want, _ := Record(key, last, texts[many])
			if s != texts[many] || number != want {
				t.Errorf("%v: %q, %x, want %q, %x", many, s, number, texts[many], want)
			}
			many, last = many+1, number
			if many == leave {
				break
			}
		}
		if many != leave {
			t.Errorf("%v were told ahead of leaving, want %v", many, leave)
		}
	}
}
