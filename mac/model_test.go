package mac_test

import (
	"crypto/hmac"
	"crypto/sha256"
	"math/rand"
	"slices"
	"testing"

	"saltus/mac"
)

// The tests here hold the calls against the library's HMAC.

// told is a text's tag, in pieces one behind the other, as the library tells it.
func told(key string, pieces ...string) string {
	h := hmac.New(sha256.New, []byte(key))
	for _, s := range pieces {
		h.Write([]byte(s))
	}
	return string(h.Sum(nil))
}

// checkText holds P4.1 of a text against the library; and P4.2: a tag has 32 bytes.
func checkText(t *testing.T, key, s string) {
	t.Helper()
	tag, want := mac.Tag(key, s), told(key, s)
	if tag != want || len(tag) != 32 {
		t.Fatalf("Tag by a key of %v bytes, of %v bytes = %x, want %x", len(key), len(s), tag, want)
	}
	if !mac.Check(key, s, want) {
		t.Fatalf("Check by a key of %v bytes, of %v bytes: %x is not told as its tag", len(key), len(s), want)
	}
}

func TestKeysOfEachLength(t *testing.T) {
	for many := range 3 * 64 {
		for _, key := range []string{of(many), filled(0, many), filled(0xff, many)} {
			checkText(t, key, "")
			checkText(t, key, "Hi There")
		}
	}
	for _, many := range []int{1 << 10, 1 << 13, 1 << 16, 1<<20 + 1} {
		checkText(t, of(many), "Hi There")
	}
}

func TestTextsOfEachLength(t *testing.T) {
	for many := range 3 * 64 {
		for _, key := range []string{"", "k", of(64), of(65)} {
			checkText(t, key, of(many))
			checkText(t, key, filled(0, many))
		}
	}
	for _, many := range []int{1 << 10, 1<<13 - 1, 1 << 13, 1 << 16, 1<<20 + 1} {
		checkText(t, "k", of(many))
		checkText(t, of(65), of(many))
	}
}

// Each byte may be anywhere in a key and in a text, and counts.
func TestKeysAndTextsOfEachByte(t *testing.T) {
	for b := range 256 {
		checkText(t, filled(byte(b), 1), "a")
		checkText(t, "k", filled(byte(b), 1))
	}
	for _, many := range []int{64, 65} {
		for bit := range 8 * many {
			b := make([]byte, many)
			b[bit/8] = 1 << (bit % 8)
			checkText(t, string(b), "a")
			checkText(t, "k", string(b))
		}
	}
}

// P4.2: a byte 0 behind a key changes no tag, just if it has less than 64 bytes; the bytes that a longer one is fitted to are a key of the same tags.
func TestBytesZeroBehindAKey(t *testing.T) {
	for many := range 2 * 64 {
		for _, s := range []string{"", "Hi There", of(100)} {
			key := of(many)
			same := mac.Tag(key+"\x00", s) == mac.Tag(key, s)
			if same != (many < 64) {
				t.Errorf("a key of %v bytes, and a byte 0 behind it: the same tag: %v", many, same)
			}
			if one := mac.Check(key+"\x00", s, mac.Tag(key, s)); one != same {
				t.Errorf("a key of %v bytes, and a byte 0 behind it: Check tells %v", many, one)
			}
		}
	}
	for _, many := range []int{65, 66, 128, 1000} {
		sum := sha256.Sum256([]byte(of(many)))
		if mac.Tag(of(many), "Hi There") != mac.Tag(string(sum[:]), "Hi There") {
			t.Errorf("a key of %v bytes, and its sum, tell two tags", many)
		}
	}
}

// checkChain holds P4.1 of a chain against the library; and P4.2: a chain's part goes on from the tag ahead of it.
func checkChain(t *testing.T, key, first string, l []string) {
	t.Helper()
	tags := mac.Chain(key, first, l)
	if len(tags) != len(l) {
		t.Fatalf("Chain of %v texts: %v tags", len(l), len(tags))
	}
	ahead := first
	for i, tag := range tags {
		if rest := mac.Chain(key, ahead, l[i:]); !slices.Equal(rest, tags[i:]) {
			t.Fatalf("Chain of texts from %v on = %x, want %x", i, rest, tags[i:])
		}
		if part := mac.Chain(key, first, l[:i]); !slices.Equal(part, tags[:i]) {
			t.Fatalf("Chain of the first %v texts = %x, want %x", i, part, tags[:i])
		}
		if want := told(key, ahead, l[i]); tag != want || len(tag) != 32 {
			t.Fatalf("Chain of %v texts: tag %v = %x, want %x", len(l), i, tag, want)
		}
		if !mac.Check(key, ahead+l[i], tag) {
			t.Fatalf("Chain of %v texts: tag %v is not told as one", len(l), i)
		}
		ahead = tag
	}
}

func TestChainsOfEachLength(t *testing.T) {
	for many := range 20 {
		l := make([]string, many)
		for i := range l {
			l[i] = of(i * 13)
		}
		for _, key := range []string{"", of(63), of(64), of(65)} {
			for _, first := range []string{"", "first", of(32), of(64), of(500)} {
				checkChain(t, key, first, l)
			}
		}
		checkChain(t, "k", "first", slices.Repeat([]string{""}, many))
		checkChain(t, "k", "", slices.Repeat([]string{"a"}, many))
	}
}

func TestChainsAtRandom(t *testing.T) {
	r := rand.New(rand.NewSource(4))
	text := func(most int) string {
		b := make([]byte, r.Intn(most))
		r.Read(b)
		return string(b)
	}
	for range 100 {
		l := make([]string, r.Intn(12))
		for i := range l {
			l[i] = text(200)
		}
		checkChain(t, text(130), text(200), l)
	}
}

func TestLongChainByALongKey(t *testing.T) {
	key, l := of(1<<20), make([]string, 2000)
	for i := range l {
		l[i] = of(i % 50)
	}
	tags := mac.Chain(key, "first", l)
	if len(tags) != len(l) {
		t.Fatalf("%v tags", len(tags))
	}
	// The library is handed the key's sum, which tells the same tags, and is soon gone through.
	sum := sha256.Sum256([]byte(key))
	ahead := "first"
	for i, s := range l {
		ahead = told(string(sum[:]), ahead, s)
		if tags[i] != ahead {
			t.Fatalf("tag %v = %x, want %x", i, tags[i], ahead)
		}
	}
}

// P1: no call panics at any arguments, and all are as the library tells.

func FuzzText(f *testing.F) {
	f.Add("", "", "")
	f.Add(of(20), "Hi There", told(of(20), "Hi There"))
	f.Add(of(63), of(64), of(32))
	f.Add(of(64), "", of(31))
	f.Add(of(65), "a", of(33))
	f.Fuzz(func(t *testing.T, key, s, tag string) {
		checkText(t, key, s)
		if mac.Check(key, s, tag) != (tag == told(key, s)) {
			t.Fatalf("Check(%x, %x, %x)", key, s, tag)
		}
	})
}

func FuzzChain(f *testing.F) {
	f.Add("", "", "", "")
	f.Add("k", "first", "a", "b")
	f.Add(of(64), of(32), of(64), "")
	f.Add(of(65), "", of(1), of(200))
	f.Fuzz(func(t *testing.T, key, first, a, b string) {
		checkChain(t, key, first, []string{a, b, a})
	})
}
