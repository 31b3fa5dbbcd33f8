package gcm_test

import (
	libaes "crypto/aes"
	"crypto/cipher"
	"encoding/binary"
	"math/rand"
	"strings"
	"testing"

	"saltus/aes"
	"saltus/api"
	"saltus/gcm"
	"saltus/ghash"
)

// The tests here hold the calls against the chapter's words, told in another way (streams block by block by the library's AES), and against the library's GCM.

// cipherOf is the library's AES by a key.
func cipherOf(t *testing.T, key string) cipher.Block {
	t.Helper()
	c, err := libaes.NewCipher([]byte(key))
	if err != nil {
		t.Fatal(err)
	}
	return c
}

// streamed is a stream, told by whole numbers: the counter block of number c is the nonce, and c.
func streamed(t *testing.T, key, nonce string, from uint32, many int) string {
	t.Helper()
	c := cipherOf(t, key)
	var all []byte
	for i := 0; len(all) < many; i++ {
		number := (uint64(from) + uint64(i)) % (1 << 32)
		block := binary.BigEndian.AppendUint32([]byte(nonce), uint32(number))
		c.Encrypt(block, block)
		all = append(all, block...)
	}
	return string(all[:many])
}

// librarySealed is a text sealed by the library; its nonce and its sizes may be such as the chapter refuses.
func librarySealed(t *testing.T, key, nonce, head, text string) string {
	t.Helper()
	g, err := cipher.NewGCMWithNonceSize(cipherOf(t, key), len(nonce))
	if err != nil {
		t.Fatal(err)
	}
	return string(g.Seal(nil, []byte(nonce), []byte(text), []byte(head)))
}

func xored(a, b string) string {
	l := []byte(a)
	for i := range l {
		l[i] ^= b[i]
	}
	return string(l)
}

// worded is a text sealed, by the chapter's words and the calls of the layers below.
func worded(t *testing.T, key, nonce, head, text string) string {
	t.Helper()
	hidden := xored(text, streamed(t, key, nonce, 2, len(text)))
	by, _ := aes.Encrypt(key, zeros(16))
	sum, _ := ghash.Sum(by, head, hidden)
	return hidden + xored(sum, streamed(t, key, nonce, 1, 16))
}

// checkStream holds P8.1 of a stream against the chapter's words.
func checkStream(t *testing.T, key, nonce string, from uint32, many int) {
	t.Helper()
	s, e := gcm.Stream(key, nonce, from, many)
	if want := streamed(t, key, nonce, from, many); s != want || e != api.OK {
		t.Fatalf("Stream(%x, %x, %v, %v) = %x, %v, want %x", key, nonce, from, many, s, e, want)
	}
}

// checkText holds P8.1 and P8.2 of a text against the chapter's words and the library; and P8.3: what is sealed has 16 bytes more than the text, is opened as it was, and what is opened is sealed to what was opened.
func checkText(t *testing.T, key, nonce, head, text string) {
	t.Helper()
	// What is handed in is held against copies that no call has seen (R4).
	k, n, h, p := strings.Clone(key), strings.Clone(nonce), strings.Clone(head), strings.Clone(text)
	sealed, e := gcm.Seal(key, nonce, head, text)
	if want := librarySealed(t, k, n, h, p); sealed != want || e != api.OK {
		t.Fatalf("Seal(%x, %x, %x, %x) = %x, %v, want %x", k, n, h, p, sealed, e, want)
	}
	if want := worded(t, k, n, h, p); sealed != want {
		t.Fatalf("Seal(%x, %x, %x, %x) = %x, by the chapter %x", k, n, h, p, sealed, want)
	}
	if len(sealed) != len(text)+16 {
		t.Fatalf("Seal of %v bytes has %v", len(text), len(sealed))
	}
	there := strings.Clone(sealed)
	opened, e := gcm.Open(key, nonce, head, sealed)
	if opened != p || e != api.OK {
		t.Fatalf("Open(%x, %x, %x, %x) = %x, %v, want %x", k, n, h, sealed, opened, e, p)
	}
	if again, e := gcm.Seal(key, nonce, head, opened); again != there || e != api.OK {
		t.Fatalf("Seal of what was opened is %x, %v, want %x", again, e, there)
	}
	if key != k || nonce != n || head != h || text != p || sealed != there {
		t.Fatalf("an argument is changed: %x, %x, %x, %x, %x", key, nonce, head, text, sealed)
	}
}

// random is a text of so many bytes.
func random(r *rand.Rand, many int) string {
	b := make([]byte, many)
	r.Read(b)
	return string(b)
}

func TestStreams(t *testing.T) {
	r := rand.New(rand.NewSource(8))
	numbers := []uint32{0, 1, 2, 254, 255, 256, 65535, 65536, 1<<24 - 1, 1 << 24, 1<<31 - 1, 1 << 31, 1<<32 - 313, 1<<32 - 312, 1<<32 - 3, 1<<32 - 2, 1<<32 - 1, r.Uint32()}
	for _, key := range []string{of(16), of(32), random(r, 16), random(r, 32)} {
		// A nonce of bytes 255, too, to which nothing must go over.
		for _, nonce := range []string{of(12), zeros(12), strings.Repeat("\xff", 12)} {
			for _, from := range numbers {
				for _, many := range []int{0, 1, 2, 15, 16, 17, 31, 32, 33, 48, 100} {
					checkStream(t, key, nonce, from, many)
				}
			}
		}
		for _, from := range numbers {
			for _, many := range []int{4999, 5000} {
				checkStream(t, key, random(r, 12), from, many)
			}
		}
	}
	for range 500 {
		checkStream(t, random(r, 16), random(r, 12), r.Uint32(), r.Intn(100))
		checkStream(t, random(r, 32), random(r, 12), r.Uint32(), r.Intn(100))
	}
}

// A stream is cut from one that goes on, and goes on where the next counter block begins.
func TestStreamsGoOn(t *testing.T) {
	for _, from := range []uint32{0, 2, 1<<32 - 2, 1<<32 - 1} {
		long, e := gcm.Stream(of(16), of(12), from, 100)
		if e != api.OK {
			t.Fatal(e)
		}
		for many := range 101 {
			if s, e := gcm.Stream(of(16), of(12), from, many); s != long[:many] || e != api.OK {
				t.Errorf("Stream from %v of %v = %x, %v, want %x", from, many, s, e, long[:many])
			}
		}
		for i := range uint32(6) {
			if s, e := gcm.Stream(of(16), of(12), from+i, 100-16*int(i)); s != long[16*i:] || e != api.OK {
				t.Errorf("Stream from %v + %v = %x, %v, want %x", from, i, s, e, long[16*i:])
			}
		}
	}
}

func TestTextsOfEachSize(t *testing.T) {
	r := rand.New(rand.NewSource(81))
	sizes := []int{0, 1, 2, 15, 16, 17, 31, 32, 33, 255, 256, 257, 4095, 4096}
	for _, head := range sizes {
		for _, text := range sizes {
			checkText(t, of(16), of(12), of(head), of(text))
			checkText(t, random(r, 32), random(r, 12), random(r, head), random(r, text))
		}
	}
	for many := range 100 {
		checkText(t, zeros(16), zeros(12), zeros(many), zeros(99-many))
		checkText(t, of(32), of(12), of(many), zeros(many))
	}
}

func TestTextsAtRandom(t *testing.T) {
	r := rand.New(rand.NewSource(82))
	for range 500 {
		checkText(t, random(r, 16), random(r, 12), random(r, r.Intn(70)), random(r, r.Intn(70)))
		checkText(t, random(r, 32), random(r, 12), random(r, r.Intn(70)), random(r, r.Intn(70)))
	}
}

// Each byte may be anywhere.
func TestTextsOfEachByte(t *testing.T) {
	for b := range 256 {
		one := string([]byte{byte(b)})
		checkText(t, strings.Repeat(one, 16), strings.Repeat(one, 12), one, one)
		checkText(t, strings.Repeat(one, 32), strings.Repeat(one, 12), strings.Repeat(one, 17), strings.Repeat(one, 33))
	}
}

// What is sealed is sealed once more, by a key and a nonce that are made of it: a fault anywhere ahead shows at the end.
func TestSealedAgainAndAgain(t *testing.T) {
	for _, many := range []int{16, 32} {
		key, nonce, head, text := of(many), of(12), "", ""
		for range 200 {
			checkText(t, key, nonce, head, text)
			sealed, _ := gcm.Seal(key, nonce, head, text)
			key, nonce, head, text = (sealed + key)[:many], (sealed[4:] + nonce)[:12], text, sealed[max(0, len(sealed)-200):]
		}
	}
}

// What the library seals with sizes that the chapter refuses is told by its size, though its tag is right.
func TestRefusedThoughSealedRight(t *testing.T) {
	for _, x := range []struct{ key, nonce, head, text int }{
		{24, 12, 3, 3},
		{16, 11, 3, 3},
		{16, 13, 3, 3},
		{16, 16, 3, 3},
		{32, 8, 3, 3},
		{16, 12, 4097, 3},
		{16, 12, 3, 4097},
		{32, 12, 4097, 4097},
		{32, 12, 1 << 16, 0},
		{32, 12, 0, 1 << 16},
	} {
		key, nonce, head, text := of(x.key), of(x.nonce), of(x.head), of(x.text)
		sealed := librarySealed(t, key, nonce, head, text)
		if s, e := gcm.Open(key, nonce, head, sealed); s != "" || e != api.ErrSize {
			t.Errorf("Open by %v: %v bytes, %v, want ErrSize", x, len(s), e)
		}
		if s, e := gcm.Seal(key, nonce, head, text); s != "" || e != api.ErrSize {
			t.Errorf("Seal by %v: %v bytes, %v, want ErrSize", x, len(s), e)
		}
	}
}

// R1: no call keeps anything: what others are asked between two of the same changes nothing.
func TestNothingIsKept(t *testing.T) {
	ask := func() [3]string {
		stream, _ := gcm.Stream(of(16), of(12), 7, 37)
		sealed, _ := gcm.Seal(of(16), of(12), "a head", of(37))
		opened, _ := gcm.Open(of(16), of(12), "a head", sealed)
		return [3]string{stream, sealed, opened}
	}
	want := ask()
	for many := range 40 {
		gcm.Stream(of(32), zeros(12), 9, many)
		gcm.Seal(of(32), zeros(12), of(many), of(many))
		gcm.Open(of(32), zeros(12), of(many), of(many))
		if now := ask(); now != want {
			t.Fatalf("%x, and then %x", want, now)
		}
	}
}

// P1, P8.1 and P8.2: no call panics at any texts, and all are as they are told.

func FuzzStream(f *testing.F) {
	for _, key := range keySizes {
		f.Add(of(key), of(12), uint32(1<<32-1), 33)
		f.Add(of(key), of(13), uint32(0), -1)
	}
	f.Fuzz(func(t *testing.T, key, nonce string, from uint32, many int) {
		if fit(len(key), len(nonce)) && many >= 0 && many <= 5000 {
			checkStream(t, key, nonce, from, many)
		} else if s, e := gcm.Stream(key, nonce, from, many); s != "" || e != api.ErrSize {
			t.Fatalf("Stream(%x, %x, %v, %v) = %x, %v", key, nonce, from, many, s, e)
		}
	})
}

func FuzzSeal(f *testing.F) {
	for _, key := range keySizes {
		for _, nonce := range nonceSizes {
			f.Add(of(key), of(nonce), of(nonce), of(key))
		}
	}
	f.Fuzz(func(t *testing.T, key, nonce, head, text string) {
		if fit(len(key), len(nonce)) && len(head) <= 4096 && len(text) <= 4096 {
			checkText(t, key, nonce, head, text)
		} else if s, e := gcm.Seal(key, nonce, head, text); s != "" || e != api.ErrSize {
			t.Fatalf("Seal(%x, %x, %x, %x) = %x, %v", key, nonce, head, text, s, e)
		}
	})
}

func FuzzOpen(f *testing.F) {
	for _, x := range published {
		f.Add(unhex(f, x.key), unhex(f, x.nonce), unhex(f, x.head), unhex(f, x.hidden+x.tag))
	}
	for _, key := range keySizes {
		for _, many := range []int{0, 15, 16, 17, 40} {
			f.Add(of(key), of(12), "a head", of(many))
		}
	}
	f.Fuzz(func(t *testing.T, key, nonce, head, sealed string) {
		s, e := gcm.Open(key, nonce, head, sealed)
		if !fit(len(key), len(nonce)) || len(head) > 4096 || len(sealed) < 16 || len(sealed) > 4112 {
			if s != "" || e != api.ErrSize {
				t.Fatalf("Open(%x, %x, %x, %x) = %x, %v", key, nonce, head, sealed, s, e)
			}
			return
		}
		text := xored(sealed[:len(sealed)-16], streamed(t, key, nonce, 2, len(sealed)-16))
		want := api.OK
		if librarySealed(t, key, nonce, head, text) != sealed {
			text, want = "", api.ErrAuth
		}
		if s != text || e != want {
			t.Fatalf("Open(%x, %x, %x, %x) = %x, %v, want %x, %v", key, nonce, head, sealed, s, e, text, want)
		}
	})
}
