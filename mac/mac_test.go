package mac_test

import (
	"encoding/hex"
	"slices"
	"strings"
	"testing"

	"saltus/mac"
	"saltus/sha"
)

// of is a text of so many bytes, whose pieces are not alike.
func of(many int) string {
	b := make([]byte, many)
	for i := range b {
		b[i] = byte(i*7 + i>>8*31 + i>>16*5)
	}
	return string(b)
}

// filled is a text of one byte, so often.
func filled(b byte, many int) string { return strings.Repeat(string([]byte{b}), many) }

// P4.1

func TestTag(t *testing.T) {
	const longText = "This is a test using a larger than block-size key and a larger than block-size data. The key needs to be hashed before being used by the HMAC algorithm."
	for _, x := range []struct{ key, s, tag string }{
		{filled(11, 20), "Hi There", "b0344c61d8db38535ca8afceaf0bf12b881dc200c9833da726e9376c2e32cff7"},
		{"Jefe", "what do ya want for nothing?", "5bdcc146bf60754e6a042426089575c75a003f089d2739839dec58b964ec3843"},
		{filled(0xaa, 20), filled(0xdd, 50), "773ea91e36800e46854db8ebd09181a72959098b3ef8c122d9635514ced565fe"},
		{"\x01\x02\x03\x04\x05\x06\x07\x08\x09\x0a\x0b\x0c\x0d\x0e\x0f\x10\x11\x12\x13\x14\x15\x16\x17\x18\x19", filled(0xcd, 50), "82558a389a443c0ea4cc819899f2083a85f0faa3e578f8077a2e3ff46729665b"},
		{filled(0xaa, 131), "Test Using Larger Than Block-Size Key - Hash Key First", "60e431591ee0b67f0d8a26aacbf5b77f8e0bc6213728c5140546040f0ee37f54"},
		{filled(0xaa, 131), longText, "9b09ffa71b942fcb27635fbcd5b0e944bfdc63644f0713938a7f51535c3a35e2"},
		{"", "", "b613679a0814d9ec772f95d778c35fc5ff1697c493715653c6c712144292c5ad"},
	} {
		if tag := hex.EncodeToString([]byte(mac.Tag(x.key, x.s))); tag != x.tag {
			t.Errorf("Tag(%x, %q) = %v, want %v", x.key, x.s, tag, x.tag)
		}
	}
}

// A key is fitted from 65 bytes on by its sum, and up to 64 by bytes 0 alone.
func TestTagFitsTheKey(t *testing.T) {
	zeros := func(many int) string { return filled(0, many) }
	for _, x := range []struct{ key, fitted string }{
		{"", zeros(64)},
		{"k", "k" + zeros(63)},
		{of(32), of(32) + zeros(32)},
		{of(63), of(63) + zeros(1)},
		{of(64), of(64)},
		{of(65), sha.Sum(of(65)) + zeros(32)},
		{of(64) + zeros(1), sha.Sum(of(64)+zeros(1)) + zeros(32)},
		{of(128), sha.Sum(of(128)) + zeros(32)},
		{of(1 << 16), sha.Sum(of(1<<16)) + zeros(32)},
	} {
		for _, s := range []string{"", "ab", of(64), of(1000)} {
			if tag, want := mac.Tag(x.key, s), byFitted(x.fitted, s); tag != want {
				t.Errorf("Tag by a key of %v bytes, of %v bytes = %x, want %x", len(x.key), len(s), tag, want)
			}
		}
	}
}

// byFitted is a text's tag, by a key of 64 bytes, as the chapter's words tell it.
func byFitted(key, s string) string {
	inner, outer := make([]byte, 64), make([]byte, 64)
	for i := range 64 {
		inner[i], outer[i] = key[i]^54, key[i]^92
	}
	return sha.Sum(string(outer) + sha.Sum(string(inner)+s))
}

func TestCheck(t *testing.T) {
	for _, key := range []string{"", "k", of(63), of(64), of(65), of(1000)} {
		for _, s := range []string{"", "a", "Hi There", of(64), of(5000)} {
			tag := mac.Tag(key, s)
			if !mac.Check(key, s, tag) {
				t.Errorf("the tag of %.20q by %.20q is not told as it", s, key)
			}
			for name, wrong := range wrongTags(key, s, tag) {
				if mac.Check(key, s, wrong) {
					t.Errorf("%v: %x is told as the tag of %.20q by %.20q", name, wrong, s, key)
				}
			}
		}
	}
}

// wrongTags are texts that are not a text's tag, each by what it is instead.
func wrongTags(key, s, tag string) map[string]string {
	return map[string]string{
		"none":                    "",
		"one byte":                tag[:1],
		"half":                    tag[:16],
		"the last byte left out":  tag[:31],
		"the first byte left out": tag[1:],
		"a byte more":             tag + "a",
		"a byte 0 more":           tag + "\x00",
		"a byte 0 ahead":          "\x00" + tag,
		"twice":                   tag + tag,
		"bytes 0":                 filled(0, 32),
		"of a longer text":        mac.Tag(key, s+"a"),
		"of a byte 0 more":        mac.Tag(key, s+"\x00"),
		"by another key":          mac.Tag(key+"a", s),
		"the other way round":     turned(tag),
		"in digits":               hex.EncodeToString([]byte(tag)),
		"the text's sum":          sha.Sum(s),
		"the sum of both":         sha.Sum(key + s),
		"the text":                s,
		"the key":                 key,
	}
}

func turned(s string) string {
	b := []byte(s)
	slices.Reverse(b)
	return string(b)
}

// A tag is told from one of which any one bit is another one, and from one that ends anywhere ahead of its end.
func TestCheckLooksAtEachBit(t *testing.T) {
	for _, key := range []string{"", of(20), of(65)} {
		tag := mac.Tag(key, "Hi There")
		for bit := range 8 * len(tag) {
			b := []byte(tag)
			b[bit/8] ^= 1 << (bit % 8)
			if mac.Check(key, "Hi There", string(b)) {
				t.Errorf("bit %v does not count", bit)
			}
		}
		for many := range len(tag) {
			if mac.Check(key, "Hi There", tag[:many]) {
				t.Errorf("%v bytes are told as the tag", many)
			}
		}
	}
}

func TestChain(t *testing.T) {
	tag := mac.Tag
	for _, key := range []string{"", "k", of(63), of(64), of(65), of(1000)} {
		a := tag(key, "firsta")
		ab := tag(key, a+"b")
		for _, x := range []struct {
			first   string
			l, tags []string
		}{
			{"first", nil, nil},
			{"first", []string{}, nil},
			{"", nil, nil},
			{"first", []string{"a"}, []string{a}},
			{"", []string{"firsta"}, []string{a}},
			{"firsta", []string{""}, []string{a}},
			{"firs", []string{"ta", "b"}, []string{a, ab}},
			{"first", []string{"a", "b"}, []string{a, ab}},
			{"first", []string{"a", "b", "b"}, []string{a, ab, tag(key, ab+"b")}},
			{"first", []string{"a", "b", ""}, []string{a, ab, tag(key, ab)}},
			{"", []string{"", ""}, []string{tag(key, ""), tag(key, tag(key, ""))}},
			{of(64), []string{of(65), of(1000)}, []string{tag(key, of(64)+of(65)), tag(key, tag(key, of(64)+of(65))+of(1000))}},
		} {
			if tags := mac.Chain(key, x.first, x.l); !slices.Equal(tags, x.tags) {
				t.Errorf("Chain(%.20q, %.20q, %.60q) = %x, want %x", key, x.first, x.l, tags, x.tags)
			}
		}
	}
}

// R1, R4: a list that is handed in stays as it is, and the one that is answered is nobody else's.
func TestListsAreNotChangedAndNotShared(t *testing.T) {
	l := []string{"a", "b", "c", "d"}
	was := slices.Clone(l)
	tags := mac.Chain("k", "first", l[:3])
	want := slices.Clone(tags)
	if !slices.Equal(l, was) {
		t.Errorf("Chain changed its list: %q", l)
	}
	clear(tags)
	if !slices.Equal(l, was) {
		t.Errorf("Chain's answer is its list: %q", l)
	}
	if again := mac.Chain("k", "first", l[:3]); !slices.Equal(again, want) {
		t.Errorf("%x, and then %x", want, again)
	}
}
