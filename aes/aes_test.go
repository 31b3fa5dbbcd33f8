package aes_test

import (
	"encoding/hex"
	"slices"
	"strings"
	"testing"

	"saltus/aes"
	"saltus/api"
)

// unhex is the text that hexadecimal digits tell; gaps among them do not count.
func unhex(t *testing.T, digits string) string {
	t.Helper()
	b, err := hex.DecodeString(strings.ReplaceAll(digits, " ", ""))
	if err != nil {
		t.Fatal(err)
	}
	return string(b)
}

// of is a text of so many bytes, no two of which side by side are alike.
func of(many int) string {
	b := make([]byte, many)
	for i := range b {
		b[i] = byte(i*37 + 11)
	}
	return string(b)
}

// P6.1

// expanded are keys, each with its words, as FIPS 197 prints them.
var expanded = []struct{ key, words string }{
	{
		"2b7e1516 28aed2a6 abf71588 09cf4f3c",
		"2b7e1516 28aed2a6 abf71588 09cf4f3c" +
			"a0fafe17 88542cb1 23a33939 2a6c7605" +
			"f2c295f2 7a96b943 5935807a 7359f67f" +
			"3d80477d 4716fe3e 1e237e44 6d7a883b" +
			"ef44a541 a8525b7f b671253b db0bad00" +
			"d4d1c6f8 7c839d87 caf2b8bc 11f915bc" +
			"6d88a37a 110b3efd dbf98641 ca0093fd" +
			"4e54f70e 5f5fc9f3 84a64fb2 4ea6dc4f" +
			"ead27321 b58dbad2 312bf560 7f8d292f" +
			"ac7766f3 19fadc21 28d12941 575c006e" +
			"d014f9a8 c9ee2589 e13f0cc8 b6630ca6",
	},
	{
		"603deb10 15ca71be 2b73aef0 857d7781 1f352c07 3b6108d7 2d9810a3 0914dff4",
		"603deb10 15ca71be 2b73aef0 857d7781" +
			"1f352c07 3b6108d7 2d9810a3 0914dff4" +
			"9ba35411 8e6925af a51a8b5f 2067fcde" +
			"a8b09c1a 93d194cd be49846e b75d5b9a" +
			"d59aecb8 5bf3c917 fee94248 de8ebe96" +
			"b5a9328a 2678a647 98312229 2f6c79b3" +
			"812c81ad dadf48ba 24360af2 fab8b464" +
			"98c5bfc9 bebd198e 268c3ba7 09e04214" +
			"68007bac b2df3316 96e939e4 6c518d80" +
			"c814e204 76a9fb8a 5025c02d 59c58239" +
			"de136967 6ccc5a71 fa256395 9674ee15" +
			"5886ca5d 2e2f31d7 7e0af1fa 27cf73c3" +
			"749c47ab 18501dda e2757e4f 7401905a" +
			"cafaaae3 e4d59b34 9adf6ace bd10190d" +
			"fe4890d1 e6188d0b 046df344 706c631e",
	},
}

func TestKeysAreThePublishedOnes(t *testing.T) {
	for _, x := range expanded {
		key, words := unhex(t, x.key), unhex(t, x.words)
		keys, e := aes.Keys(key)
		if e != api.OK {
			t.Errorf("Keys(%x): %v", key, e)
		}
		if many := len(key)/4 + 7; len(keys) != many {
			t.Errorf("Keys(%x): %v round keys, want %v", key, len(keys), many)
		}
		for i, k := range keys {
			if len(k) != 16 {
				t.Errorf("Keys(%x): round key %v has %v bytes", key, i, len(k))
			}
		}
		if all := strings.Join(keys, ""); all != words {
			t.Errorf("Keys(%x) = %x, want %x", key, all, words)
		}
	}
}

// The steps of round 1 of FIPS 197's example of a short key, one behind the other; and columns that are printed with what they are mixed to.
func TestStepsAreThePublishedOnes(t *testing.T) {
	for _, x := range []struct {
		name        string
		step        func(string) (string, api.Errno)
		block, want string
	}{
		{"Boxed", aes.Boxed, "00102030405060708090a0b0c0d0e0f0", "63cab7040953d051cd60e0e7ba70e18c"},
		{"Turned", aes.Turned, "63cab7040953d051cd60e0e7ba70e18c", "6353e08c0960e104cd70b751bacad0e7"},
		{"Mixed", aes.Mixed, "6353e08c0960e104cd70b751bacad0e7", "5f72641557f5bc92f7be3b291db9f91a"},
		{"Boxed", aes.Boxed, "00000000000000000000000000000000", "63636363636363636363636363636363"},
		{"Boxed", aes.Boxed, "00010253feff1060005200000000ff63", "637c77edbb16cad063006363636316fb"},
		{"Turned", aes.Turned, "000102030405060708090a0b0c0d0e0f", "00050a0f04090e03080d02070c01060b"},
		{"Mixed", aes.Mixed, "db135345f20a225c01010101c6c6c6c6", "8e4da1bc9fdc589d01010101c6c6c6c6"},
		{"Mixed", aes.Mixed, "d4d4d4d52d26314c0000000080000000", "d5d5d7d64d7ebdf8000000001b80809b"},
		{"Mixed", aes.Mixed, "01000000000100000000010000000001", "02010103030201010103020101010302"},
	} {
		block, want := unhex(t, x.block), unhex(t, x.want)
		if b, e := x.step(block); b != want || e != api.OK {
			t.Errorf("%v(%x) = %x, %v, want %x", x.name, block, b, e, want)
		}
	}
}

// P6.1: sizes that may not be are told, and nothing beside that.

func TestKeysOfOtherSizes(t *testing.T) {
	for many := range 100 {
		keys, e := aes.Keys(of(many))
		if many == 16 || many == 32 {
			if e != api.OK || len(keys) != many/4+7 {
				t.Errorf("Keys of %v bytes: %v round keys, %v", many, len(keys), e)
			}
		} else if e != api.ErrSize || len(keys) != 0 {
			t.Errorf("Keys of %v bytes = %x, %v, want ErrSize", many, keys, e)
		}
	}
}

func TestBlocksOfOtherSizes(t *testing.T) {
	for name, step := range map[string]func(string) (string, api.Errno){
		"Boxed": aes.Boxed, "Turned": aes.Turned, "Mixed": aes.Mixed,
	} {
		for many := range 100 {
			b, e := step(of(many))
			if many == 16 {
				if e != api.OK || len(b) != 16 {
					t.Errorf("%v of 16 bytes = %x, %v", name, b, e)
				}
			} else if e != api.ErrSize || b != "" {
				t.Errorf("%v of %v bytes = %x, %v, want ErrSize", name, many, b, e)
			}
		}
	}
}

func TestEncryptOfOtherSizes(t *testing.T) {
	sizes := []int{0, 1, 4, 8, 12, 15, 16, 17, 20, 24, 28, 31, 32, 33, 48, 64, 128, 1 << 16}
	for _, key := range sizes {
		for _, block := range sizes {
			b, e := aes.Encrypt(of(key), of(block))
			if (key == 16 || key == 32) && block == 16 {
				if e != api.OK || len(b) != 16 {
					t.Errorf("Encrypt by %v bytes, of %v = %x, %v", key, block, b, e)
				}
			} else if e != api.ErrSize || b != "" {
				t.Errorf("Encrypt by %v bytes, of %v = %x, %v, want ErrSize", key, block, b, e)
			}
		}
	}
}

// P6.2

func TestEncrypt(t *testing.T) {
	for _, x := range []struct{ key, block, want string }{
		{"000102030405060708090a0b0c0d0e0f", "00112233445566778899aabbccddeeff", "69c4e0d86a7b0430d8cdb78070b4c55a"},
		{"2b7e151628aed2a6abf7158809cf4f3c", "3243f6a8885a308d313198a2e0370734", "3925841d02dc09fbdc118597196a0b32"},
		{"2b7e151628aed2a6abf7158809cf4f3c", "6bc1bee22e409f96e93d7e117393172a", "3ad77bb40d7a3660a89ecaf32466ef97"},
		{"00000000000000000000000000000000", "00000000000000000000000000000000", "66e94bd4ef8a2c3b884cfa59ca342b2e"},
		{"000102030405060708090a0b0c0d0e0f101112131415161718191a1b1c1d1e1f", "00112233445566778899aabbccddeeff", "8ea2b7ca516745bfeafc49904b496089"},
		{"603deb1015ca71be2b73aef0857d77811f352c073b6108d72d9810a30914dff4", "6bc1bee22e409f96e93d7e117393172a", "f3eed1bdb5d2a03c064b5a7e3db181f8"},
		{"0000000000000000000000000000000000000000000000000000000000000000", "00000000000000000000000000000000", "dc95c078a2408989ad48a21492842087"},
	} {
		key, block, want := unhex(t, x.key), unhex(t, x.block), unhex(t, x.want)
		if b, e := aes.Encrypt(key, block); b != want || e != api.OK {
			t.Errorf("Encrypt(%x, %x) = %x, %v, want %x", key, block, b, e, want)
		}
	}
}

// R1: no call keeps anything: the round keys that are answered are nobody else's.
func TestRoundKeysAreNobodyElses(t *testing.T) {
	for _, key := range []string{of(16), of(32)} {
		first, _ := aes.Keys(key)
		second, _ := aes.Keys(key)
		want := slices.Clone(second)
		clear(first)
		if !slices.Equal(second, want) {
			t.Errorf("two answers share their round keys: %x", second)
		}
		if again, _ := aes.Keys(key); !slices.Equal(again, want) {
			t.Errorf("Keys(%x) = %x, and then %x", key, want, again)
		}
	}
}
