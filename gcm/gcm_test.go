package gcm_test

import (
	"encoding/hex"
	"strings"
	"testing"

	"saltus/api"
	"saltus/gcm"
)

// unhex is the text that hexadecimal digits tell; gaps among them do not count.
func unhex(t testing.TB, digits string) string {
	t.Helper()
	b, err := hex.DecodeString(strings.ReplaceAll(digits, " ", ""))
	if err != nil {
		t.Fatal(err)
	}
	return string(b)
}

// of is a text of so many bytes, whose blocks are not alike.
func of(many int) string {
	b := make([]byte, many)
	for i := range b {
		b[i] = byte(i*37 + i>>8*11 + 11)
	}
	return string(b)
}

// zeros is a text of so many bytes 0.
func zeros(many int) string { return strings.Repeat("\x00", many) }

// turned is a text with one bit turned: bit 0 is the highest of its first byte.
func turned(s string, bit int) string {
	b := []byte(s)
	b[bit/8] ^= 128 >> (bit % 8)
	return string(b)
}

// The sizes that the chapter names, and one beside.
var (
	keySizes    = []int{0, 15, 16, 17, 24, 31, 32, 33}
	nonceSizes  = []int{0, 11, 12, 13}
	textSizes   = []int{0, 1, 15, 16, 17, 4095, 4096, 4097}
	sealedSizes = []int{0, 1, 15, 16, 17, 31, 32, 33, 4111, 4112, 4113}
	streamSizes = []int{-1 << 63, -5000, -16, -1, 0, 1, 15, 16, 17, 4999, 5000, 5001, 1<<32 - 1, 1 << 32, 1<<32 + 1, 1<<63 - 1}
)

// fit tells whether a key and a nonce of so many bytes may be.
func fit(key, nonce int) bool { return (key == 16 || key == 32) && nonce == 12 }

// published are printed examples of GCM, that of the chapter the first one: those of a nonce of 12 bytes, by keys of 16 and of 32.
var published = []struct{ key, nonce, head, text, hidden, tag string }{
	{zeroKey, zeroNonce, "", "", "", "58e2fccefa7e3061367f1d57a4e7455a"},
	{zeroKey, zeroNonce, "", zeroKey, "0388dace60b6a392f328c2b971b2fe78", "ab6e47d42cec13bdf53a67b21257bddf"},
	{someKey, someNonce, "", someText, shortHidden, "4d5c2af327cd64a62cf35abd2ba6fab4"},
	{someKey, someNonce, someHead, someText[:120], shortHidden[:120], "5bc94fbc3221a5db94fae95ae7121a47"},
	{zeroKey + zeroKey, zeroNonce, "", "", "", "530f8afbc74536b9a963b4f1c4cb738b"},
	{zeroKey + zeroKey, zeroNonce, "", zeroKey, "cea7403d4d606b6e074ec5d3baf39d18", "d0d1c8a799996bf0265b98b5d48ab919"},
	{someKey + someKey, someNonce, "", someText, longHidden, "b094dac5d93471bdec1a502270e3cc6c"},
	{someKey + someKey, someNonce, someHead, someText[:120], longHidden[:120], "76fc6ece0f4e1768cddf8853bb2d551b"},
}

// What the printed examples are made of.
const (
	zeroKey     = "00000000000000000000000000000000"
	zeroNonce   = "000000000000000000000000"
	someKey     = "feffe9928665731c6d6a8f9467308308"
	someNonce   = "cafebabefacedbaddecaf888"
	someHead    = "feedfacedeadbeeffeedfacedeadbeefabaddad2"
	someText    = "d9313225f88406e5a55909c5aff5269a86a7a9531534f7da2e4c303d8a318a721c3c0c95956809532fcf0e2449a6b525b16aedf5aa0de657ba637b391aafd255"
	shortHidden = "42831ec2217774244b7221b784d0d49ce3aa212f2c02a4e035c17e2329aca12e21d514b25466931c7d8f6a5aac84aa051ba30b396a0aac973d58e091473f5985"
	longHidden  = "522dc1f099567d07f47f37a32a84427d643a8cdcbfe5c0c97598a2bd2555d1aa8cb08e48590dbb3da7b08b1056828838c5f61e6393ba7a0abcc9f662898015ad"
)

// P8.1 and P8.2

func TestSealedAsPublished(t *testing.T) {
	for _, x := range published {
		key, nonce, head, text := unhex(t, x.key), unhex(t, x.nonce), unhex(t, x.head), unhex(t, x.text)
		want := unhex(t, x.hidden+x.tag)
		if s, e := gcm.Seal(key, nonce, head, text); s != want || e != api.OK {
			t.Errorf("Seal(%x, %x, %x, %x) = %x, %v, want %x", key, nonce, head, text, s, e, want)
		}
		if s, e := gcm.Open(key, nonce, head, want); s != text || e != api.OK {
			t.Errorf("Open(%x, %x, %x, %x) = %x, %v, want %x", key, nonce, head, want, s, e, text)
		}
	}
}

// The printed examples' text is xor-ed with the stream from 2 on.
func TestStreamIsBetweenTextAndHidden(t *testing.T) {
	for _, x := range published {
		want := xored(unhex(t, x.text), unhex(t, x.hidden))
		if s, e := gcm.Stream(unhex(t, x.key), unhex(t, x.nonce), 2, len(want)); s != want || e != api.OK {
			t.Errorf("Stream(%v, %v, 2, %v) = %x, %v, want %x", x.key, x.nonce, len(want), s, e, want)
		}
	}
}

// The printed examples tell counter blocks encrypted, too.
func TestStreamIsThePublishedOne(t *testing.T) {
	for _, x := range []struct {
		key, nonce string
		from       uint32
		want       string
	}{
		{zeroKey, zeroNonce, 0, "66e94bd4ef8a2c3b884cfa59ca342b2e 58e2fccefa7e3061367f1d57a4e7455a 0388dace60b6a392f328c2b971b2fe78"},
		{zeroKey, zeroNonce, 1, "58e2fccefa7e3061367f1d57a4e7455a 0388dace60b6a392f328c2b971b2fe78"},
		{zeroKey, zeroNonce, 2, "0388dace60b6a392f328c2b971b2fe78"},
		{zeroKey + zeroKey, zeroNonce, 0, "dc95c078a2408989ad48a21492842087 530f8afbc74536b9a963b4f1c4cb738b cea7403d4d606b6e074ec5d3baf39d18"},
		{someKey, someNonce, 1, "3247184b3c4f69a44dbcd22887bbb418 9bb22ce7d9f372c1ee2b28722b25f206 650d887c3936533a1b8d4e1ea39d2b5c 3de91827c10e9a4f5240647ee5221f20"},
	} {
		key, nonce, want := unhex(t, x.key), unhex(t, x.nonce), unhex(t, x.want)
		for many := range len(want) + 1 {
			if s, e := gcm.Stream(key, nonce, x.from, many); s != want[:many] || e != api.OK {
				t.Errorf("Stream(%x, %x, %v, %v) = %x, %v, want %x", key, nonce, x.from, many, s, e, want[:many])
			}
		}
	}
}

// Behind the last number that a counter block may have is 0 once more, and the nonce stays as it is.
func TestStreamGoesOverTheLastNumber(t *testing.T) {
	const first = "66e94bd4ef8a2c3b884cfa59ca342b2e 58e2fccefa7e3061367f1d57a4e7455a 0388dace60b6a392f328c2b971b2fe78"
	key, nonce, want := unhex(t, zeroKey), unhex(t, zeroNonce), unhex(t, first)
	for ahead := range 4 {
		s, e := gcm.Stream(key, nonce, -uint32(ahead), 16*ahead+len(want))
		if e != api.OK || len(s) != 16*ahead+len(want) || s[16*ahead:] != want {
			t.Errorf("Stream from 2^32 - %v = %x, %v, want it to end with %x", ahead, s, e, want)
		}
	}
}

// P8.1: sizes that may not be are told, and nothing beside that, also where two are wrong at once.

func TestStreamOfOtherSizes(t *testing.T) {
	for _, key := range keySizes {
		for _, nonce := range nonceSizes {
			for _, many := range streamSizes {
				for _, from := range []uint32{0, 1, 2, 1<<32 - 2, 1<<32 - 1} {
					s, e := gcm.Stream(of(key), of(nonce), from, many)
					if fit(key, nonce) && many >= 0 && many <= 5000 {
						if e != api.OK || len(s) != many {
							t.Errorf("Stream by %v and %v bytes, from %v, of %v: %v bytes, %v", key, nonce, from, many, len(s), e)
						}
					} else if e != api.ErrSize || s != "" {
						t.Errorf("Stream by %v and %v bytes, from %v, of %v: %v bytes, %v, want ErrSize", key, nonce, from, many, len(s), e)
					}
				}
			}
		}
	}
}

func TestSealOfOtherSizes(t *testing.T) {
	for _, key := range keySizes {
		for _, nonce := range nonceSizes {
			for _, head := range textSizes {
				for _, text := range textSizes {
					s, e := gcm.Seal(of(key), of(nonce), of(head), of(text))
					if fit(key, nonce) && head <= 4096 && text <= 4096 {
						if e != api.OK || len(s) != text+16 {
							t.Errorf("Seal by %v and %v bytes, of %v and %v: %v bytes, %v", key, nonce, head, text, len(s), e)
						}
					} else if e != api.ErrSize || s != "" {
						t.Errorf("Seal by %v and %v bytes, of %v and %v: %v bytes, %v, want ErrSize", key, nonce, head, text, len(s), e)
					}
				}
			}
		}
	}
}

// P8.2: a size that may not be is told, and not that the tag is wrong, which it is here.
func TestOpenOfOtherSizes(t *testing.T) {
	for _, key := range keySizes {
		for _, nonce := range nonceSizes {
			for _, head := range textSizes {
				for _, sealed := range sealedSizes {
					want := api.ErrSize
					if fit(key, nonce) && head <= 4096 && sealed >= 16 && sealed <= 4112 {
						want = api.ErrAuth
					}
					if s, e := gcm.Open(of(key), of(nonce), of(head), of(sealed)); e != want || s != "" {
						t.Errorf("Open by %v and %v bytes, of %v and %v = %x, %v, want %v", key, nonce, head, sealed, s, e, want)
					}
				}
			}
		}
	}
}

// Far more bytes than may be are told at once.
func TestTextsFarTooLong(t *testing.T) {
	long := of(1 << 20)
	for _, x := range []struct{ key, nonce, head, text string }{
		{long, of(12), "", ""},
		{of(16), long, "", ""},
		{of(16), of(12), long, ""},
		{of(32), of(12), "", long},
		{long, long, long, long},
	} {
		if s, e := gcm.Seal(x.key, x.nonce, x.head, x.text); s != "" || e != api.ErrSize {
			t.Errorf("Seal by %v and %v bytes, of %v and %v: %v bytes, %v", len(x.key), len(x.nonce), len(x.head), len(x.text), len(s), e)
		}
		if s, e := gcm.Open(x.key, x.nonce, x.head, x.text); s != "" || e != api.ErrSize {
			t.Errorf("Open by %v and %v bytes, of %v and %v: %v bytes, %v", len(x.key), len(x.nonce), len(x.head), len(x.text), len(s), e)
		}
		if s, e := gcm.Stream(x.key, x.nonce, 2, len(x.text)); e != api.ErrSize && x.head == "" || s != "" {
			t.Errorf("Stream by %v and %v bytes, of %v: %v bytes, %v", len(x.key), len(x.nonce), len(x.text), len(s), e)
		}
	}
}

// P8.2: where all but one thing is as it was, nothing is opened.

// checkNotOpened asks that a text is told not to be sealed.
func checkNotOpened(t *testing.T, what, key, nonce, head, sealed string) {
	t.Helper()
	if s, e := gcm.Open(key, nonce, head, sealed); s != "" || e != api.ErrAuth {
		t.Errorf("%v: Open of a head of %v bytes, of %v sealed = %x, %v, want ErrAuth", what, len(head), len(sealed), s, e)
	}
}

// sealedOf is a text sealed, and asks that it is opened.
func sealedOf(t *testing.T, key, nonce, head, text string) string {
	t.Helper()
	sealed, e := gcm.Seal(key, nonce, head, text)
	if e != api.OK {
		t.Fatalf("Seal by %v and %v bytes, of %v and %v: %v", len(key), len(nonce), len(head), len(text), e)
	}
	if s, e := gcm.Open(key, nonce, head, sealed); s != text || e != api.OK {
		t.Fatalf("Open of what was sealed of %v and %v bytes = %x, %v", len(head), len(text), s, e)
	}
	return sealed
}

func TestWrongKeysNoncesAndHeads(t *testing.T) {
	nonce := of(12)
	for _, key := range []string{of(16), of(32), zeros(16), zeros(32)} {
		for _, many := range []int{0, 1, 16, 33} {
			head, text := of(many), of(40-many)
			sealed := sealedOf(t, key, nonce, head, text)
			for bit := range 8 * len(key) {
				checkNotOpened(t, "a key's bit turned", turned(key, bit), nonce, head, sealed)
			}
			for bit := range 8 * len(nonce) {
				checkNotOpened(t, "a nonce's bit turned", key, turned(nonce, bit), head, sealed)
			}
			for bit := range 8 * len(head) {
				checkNotOpened(t, "a head's bit turned", key, nonce, turned(head, bit), sealed)
			}
			for size := range len(head) {
				checkNotOpened(t, "a head cut", key, nonce, head[:size], sealed)
			}
			checkNotOpened(t, "a byte 0 behind the head", key, nonce, head+"\x00", sealed)
			checkNotOpened(t, "a byte 0 ahead of the head", key, nonce, "\x00"+head, sealed)
			checkNotOpened(t, "a key of another size", (key + key)[:48-len(key)], nonce, head, sealed)
		}
	}
}

// A byte may not go over from the head to the text, or back.
func TestHeadAndTextAreTwo(t *testing.T) {
	key, nonce := of(16), of(12)
	sealed := sealedOf(t, key, nonce, of(20), of(20))
	hidden, tag := sealed[:20], sealed[20:]
	all := of(20) + hidden
	for size := range len(all) + 1 {
		if size != 20 {
			checkNotOpened(t, "cut elsewhere", key, nonce, all[:size], all[size:]+tag)
		}
	}
	checkNotOpened(t, "head and text changed for one another", key, nonce, hidden, of(20)+tag)
}

func TestWrongTags(t *testing.T) {
	for _, key := range []string{of(16), of(32)} {
		for _, many := range []int{0, 1, 16, 17, 4096} {
			nonce, head := of(12), of(5)
			sealed := sealedOf(t, key, nonce, head, of(many))
			hidden, tag := sealed[:many], sealed[many:]
			checkNotOpened(t, "the tag's first bit turned", key, nonce, head, hidden+turned(tag, 0))
			checkNotOpened(t, "the tag's last bit turned", key, nonce, head, hidden+turned(tag, 127))
			checkNotOpened(t, "no tag but bytes 0", key, nonce, head, hidden+zeros(16))
			checkNotOpened(t, "the tag's bytes turned round", key, nonce, head, hidden+tag[1:]+tag[:1])
			checkNotOpened(t, "the tag twice", key, nonce, head, (hidden + tag + tag)[max(0, many-4080):])
			other := sealedOf(t, key, nonce, head+"a", of(many))
			checkNotOpened(t, "another head's tag", key, nonce, head, hidden+other[many:])
		}
	}
}

// Sealed bytes that are cut are not opened, or are too few; and bytes behind them or ahead of them are too many.
func TestSealedTextsCut(t *testing.T) {
	key, nonce, head := of(32), of(12), of(3)
	sealed := sealedOf(t, key, nonce, head, of(50))
	for from := range len(sealed) {
		for to := from; to <= len(sealed); to++ {
			if to-from == len(sealed) {
				continue
			}
			want := api.ErrAuth
			if to-from < 16 {
				want = api.ErrSize
			}
			if s, e := gcm.Open(key, nonce, head, sealed[from:to]); s != "" || e != want {
				t.Errorf("Open of bytes %v to %v = %x, %v, want %v", from, to, s, e, want)
			}
		}
	}
	for b := range 256 {
		more := string([]byte{byte(b)})
		checkNotOpened(t, "a byte behind it", key, nonce, head, sealed+more)
		checkNotOpened(t, "a byte ahead of it", key, nonce, head, more+sealed)
	}
}

// P8.3: with one bit of it turned, what is sealed is not opened.

func TestEachBitTurned(t *testing.T) {
	for _, key := range []string{of(16), of(32)} {
		for _, many := range []int{0, 1, 15, 16, 17, 100} {
			nonce, head := of(12), of(7)
			sealed := sealedOf(t, key, nonce, head, of(many))
			for bit := range 8 * len(sealed) {
				checkNotOpened(t, "a bit turned", key, nonce, head, turned(sealed, bit))
			}
		}
	}
}

// As long a text as may be, with each of its bytes wrong in one bit; and with as long a head, that is wrong so.
func TestEachByteOfLongTextsTurned(t *testing.T) {
	key, nonce := of(16), of(12)
	sealed := sealedOf(t, key, nonce, "", of(4096))
	for i := range sealed {
		checkNotOpened(t, "a bit turned", key, nonce, "", turned(sealed, 8*i+i%8))
	}
	head := of(4096)
	sealed = sealedOf(t, key, nonce, head, "")
	for i := range head {
		checkNotOpened(t, "a head's bit turned", key, nonce, turned(head, 8*i+i%8), sealed)
	}
}

// Two bits at once are not opened, either.
func TestTwoBitsTurned(t *testing.T) {
	key, nonce, head := of(16), of(12), "a head"
	sealed := sealedOf(t, key, nonce, head, "ab")
	for i := range 8 * len(sealed) {
		for j := range i {
			checkNotOpened(t, "two bits turned", key, nonce, head, turned(turned(sealed, i), j))
		}
	}
}

// P8.2: of what is wrong, the size is told ahead of the tag, also where a longer text is sealed right by its words.
func TestSizesAreToldAheadOfTags(t *testing.T) {
	key, nonce := of(16), of(12)
	right := sealedOf(t, key, nonce, of(4096), of(4096))
	for _, x := range []struct{ what, key, nonce, head, sealed string }{
		{"a key too short", key[1:], nonce, of(4096), right},
		{"a key too long", key + "\x00", nonce, of(4096), right},
		{"a nonce too short", key, nonce[1:], of(4096), right},
		{"a nonce too long", key, nonce + "\x00", of(4096), right},
		{"a head too long", key, nonce, of(4097), right},
		{"sealed too long", key, nonce, of(4096), right + "\x00"},
		{"sealed too long, and wrong", key, nonce, of(4096), "\x00" + right},
		{"sealed too short", key, nonce, of(4096), right[4097:]},
		{"sealed not at all", key, nonce, of(4096), ""},
		{"a wrong tag and a key too short", key[1:], nonce, of(4096), turned(right, 8*4112-1)},
		{"a wrong tag and a nonce too long", key, nonce + "\x00", of(4096), turned(right, 8*4112-1)},
		{"a wrong tag and a head too long", key, nonce, of(4097), turned(right, 8*4112-1)},
		{"a key and a head too long", key + "\x00", nonce, of(4097), right},
		{"a nonce too short, and sealed so", key, nonce[1:], of(4096), right[4097:]},
	} {
		if s, e := gcm.Open(x.key, x.nonce, x.head, x.sealed); s != "" || e != api.ErrSize {
			t.Errorf("%v: Open = %v bytes, %v, want ErrSize", x.what, len(s), e)
		}
	}
	checkNotOpened(t, "a wrong tag alone", key, nonce, of(4096), turned(right, 8*4112-1))
}
