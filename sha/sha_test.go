package sha_test

import (
	"encoding/hex"
	"slices"
	"strings"
	"testing"

	"saltus/api"
	"saltus/sha"
)

const top = uint32(1<<32 - 1)

// of is a text of so many bytes, whose blocks are not alike.
func of(many int) string {
	b := make([]byte, many)
	for i := range b {
		b[i] = byte(i*7 + i>>8*31 + i>>16*5)
	}
	return string(b)
}

// P3.1

func TestPad(t *testing.T) {
	zeros := func(many int) string { return strings.Repeat("\x00", many) }
	for _, x := range []struct{ s, padded string }{
		{"", "\x80" + zeros(63)},
		{"abc", "abc\x80" + zeros(52) + zeros(7) + "\x18"},
		{"\x00", "\x00\x80" + zeros(54) + zeros(7) + "\x08"},
		{"\x80", "\x80\x80" + zeros(54) + zeros(7) + "\x08"},
		{of(32), of(32) + "\x80" + zeros(23) + zeros(6) + "\x01\x00"},
		{of(54), of(54) + "\x80" + zeros(1) + zeros(6) + "\x01\xb0"},
		{of(55), of(55) + "\x80" + zeros(6) + "\x01\xb8"},
		{of(56), of(56) + "\x80" + zeros(63) + zeros(6) + "\x01\xc0"},
		{of(57), of(57) + "\x80" + zeros(62) + zeros(6) + "\x01\xc8"},
		{of(63), of(63) + "\x80" + zeros(56) + zeros(6) + "\x01\xf8"},
		{of(64), of(64) + "\x80" + zeros(55) + zeros(6) + "\x02\x00"},
		{of(119), of(119) + "\x80" + zeros(6) + "\x03\xb8"},
		{of(120), of(120) + "\x80" + zeros(63) + zeros(6) + "\x03\xc0"},
		{of(128), of(128) + "\x80" + zeros(55) + zeros(6) + "\x04\x00"},
		{of(1 << 13), of(1<<13) + "\x80" + zeros(55) + zeros(5) + "\x01\x00\x00"},
		{of(0x123456), of(0x123456) + "\x80" + zeros(33) + zeros(4) + "\x00\x91\xa2\xb0"},
		{of(0x1234567), of(0x1234567) + "\x80" + zeros(16) + zeros(4) + "\x09\x1a\x2b\x38"},
	} {
		if p := sha.Pad(x.s); p != x.padded {
			t.Errorf("Pad of %v bytes: %v bytes, the last ones %x, want %v, %x", len(x.s), len(p), p[max(0, len(p)-72):], len(x.padded), x.padded[len(x.padded)-64:])
		}
	}
}

func TestStart(t *testing.T) {
	want := []uint32{0x6a09e667, 0xbb67ae85, 0x3c6ef372, 0xa54ff53a, 0x510e527f, 0x9b05688c, 0x1f83d9ab, 0x5be0cd19}
	if s := sha.Start(); !slices.Equal(s, want) {
		t.Errorf("Start() = %x, want %x", s, want)
	}
}

func TestKeys(t *testing.T) {
	k := sha.Keys()
	if len(k) != 64 {
		t.Fatalf("%v keys", len(k))
	}
	for i, want := range map[int]uint32{0: 0x428a2f98, 1: 0x71374491, 2: 0xb5c0fbcf, 15: 0xc19bf174, 16: 0xe49b69c1, 31: 0x14292967, 32: 0x27b70a85, 62: 0xbef9a3f7, 63: 0xc67178f2} {
		if k[i] != want {
			t.Errorf("key %v = %x, want %x", i, k[i], want)
		}
	}
}

func TestSum(t *testing.T) {
	for _, x := range []struct{ s, sum string }{
		{"", "e3b0c44298fc1c149afbf4c8996fb92427ae41e4649b934ca495991b7852b855"},
		{"abc", "ba7816bf8f01cfea414140de5dae2223b00361a396177a9cb410ff61f20015ad"},
		{"abcdbcdecdefdefgefghfghighijhijkijkljklmklmnlmnomnopnopq", "248d6a61d20638b8e5c026930c3e6039a33ce45964ff2167f6ecedd419db06c1"},
		{"abcdefghbcdefghicdefghijdefghijkefghijklfghijklmghijklmnhijklmnoijklmnopjklmnopqklmnopqrlmnopqrsmnopqrstnopqrstu", "cf5b16a778af8380036ce59e7b0492370b249b11e8f07a51afac45037afee9d1"},
		{strings.Repeat("a", 1000000), "cdc76e5c9914fb9281a1c7e284d73e67f1809a48a497200e046d39ccc7112cd0"},
		{"\xff", "a8100ae6aa1940d0b663bb31cd466142ebbdbd5187131b92d93818987832eb89"},
	} {
		if s := hex.EncodeToString([]byte(sha.Sum(x.s))); s != x.sum {
			t.Errorf("Sum(%.40q) = %v, want %v", x.s, s, x.sum)
		}
	}
}

// P3.2

func TestMix(t *testing.T) {
	for _, x := range []struct{ s, sum string }{
		{"", "e3b0c44298fc1c149afbf4c8996fb92427ae41e4649b934ca495991b7852b855"},
		{"abc", "ba7816bf8f01cfea414140de5dae2223b00361a396177a9cb410ff61f20015ad"},
	} {
		state, e := sha.Mix(sha.Start(), sha.Pad(x.s))
		if s := hex.EncodeToString(bytesOf(state)); s != x.sum || e != api.OK {
			t.Errorf("Mix of %q padded = %v, %v, want %v", x.s, s, e, x.sum)
		}
	}
}

func TestMixOfASizeThatMayNotBe(t *testing.T) {
	for _, words := range []int{0, 1, 7, 8, 9, 16, 64} {
		for _, bytes := range []int{0, 1, 8, 55, 56, 63, 64, 65, 128, 1000} {
			if words == 8 && bytes == 64 {
				continue
			}
			state, e := sha.Mix(make([]uint32, words), of(bytes))
			if len(state) != 0 || e != api.ErrSize {
				t.Errorf("Mix of %v words and %v bytes = %x, %v, want ErrSize", words, bytes, state, e)
			}
		}
	}
	if state, e := sha.Mix(nil, of(64)); len(state) != 0 || e != api.ErrSize {
		t.Error(state, e)
	}
}

// R1, R4: what is answered is nobody else's, and what is handed in stays.

func TestAnswersAreNotShared(t *testing.T) {
	for name, f := range map[string]func() []uint32{
		"Start": sha.Start,
		"Keys":  sha.Keys,
		"Mix": func() []uint32 {
			state, _ := sha.Mix(sha.Start(), of(64))
			return state
		},
	} {
		first := f()
		was := slices.Clone(first)
		for i := range first {
			first[i] = ^first[i]
		}
		if again := f(); !slices.Equal(again, was) {
			t.Errorf("%v: %x, and then %x", name, was, again)
		}
	}
}

func TestMixLeavesTheState(t *testing.T) {
	words := append(sha.Start(), 1, 2, 3)
	was := slices.Clone(words)
	next, e := sha.Mix(words[:8], of(64))
	if e != api.OK || !slices.Equal(words, was) {
		t.Errorf("%v, %x, was %x", e, words, was)
	}
	clear(next)
	if !slices.Equal(words, was) {
		t.Errorf("%x, was %x", words, was)
	}
}
