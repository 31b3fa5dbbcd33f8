package seal_test

import (
	"crypto/aes"
	"crypto/cipher"
	"encoding/binary"
	"math/rand"
	"strings"
	"testing"

	"saltus/api"
	"saltus/seal"
)

// The tests here hold the calls against the chapter's words told in another way: numbers' bytes and what is sealed by the library.

// sector is all that a text hangs on, but its data.
type sector struct {
	key          string
	kind, at     int
	gen, logical uint64
}

// little are numbers' bytes, 8 of each, the lowest first.
func little(numbers ...uint64) string {
	var b []byte
	for _, n := range numbers {
		b = binary.LittleEndian.AppendUint64(b, n)
	}
	return string(b)
}

// nonced is a nonce, of sectors that may not be, too.
func nonced(at int, gen uint64) string {
	return string(binary.LittleEndian.AppendUint32(nil, uint32(at))) + little(gen)
}

// gcmOf is the library's GCM by a key of 16, 24 or 32 bytes.
func gcmOf(t *testing.T, key string) cipher.AEAD {
	t.Helper()
	block, err := aes.NewCipher([]byte(key))
	if err != nil {
		t.Fatal(err)
	}
	g, err := cipher.NewGCM(block)
	if err != nil {
		t.Fatal(err)
	}
	return g
}

// librarySealed is data sealed by the library, with any nonce and head.
func librarySealed(t *testing.T, key, nonce, head, data string) string {
	t.Helper()
	return string(gcmOf(t, key).Seal(nil, []byte(nonce), []byte(data), []byte(head)))
}

// worded is a sector's text by the chapter's words alone, also where the promises refuse it.
func worded(t *testing.T, x sector, data string) string {
	t.Helper()
	head := little(uint64(x.kind), x.logical, uint64(len(data)))
	return little(x.gen) + librarySealed(t, x.key, nonced(x.at, x.gen), head, data)
}

// unworded is what a text that has the bytes for it tells, by the chapter's words, and whether it tells that.
func unworded(t *testing.T, x sector, s string) (uint64, string, bool) {
	t.Helper()
	gen := binary.LittleEndian.Uint64([]byte(s))
	head := little(uint64(x.kind), x.logical, uint64(len(s)-24))
	data, err := gcmOf(t, x.key).Open(nil, []byte(nonced(x.at, gen)), []byte(s[8:]), []byte(head))
	if err != nil {
		return 0, "", false
	}
	return gen, string(data), true
}

// whyNot is the first error that P11.1 and P11.2 have in common.
func whyNot(x sector) api.Errno {
	switch {
	case x.at < 0 || x.at > 63, x.kind < 0 || x.kind > 2:
		return api.ErrArg
	case len(x.key) != 16 && len(x.key) != 32:
		return api.ErrSize
	}
	return api.OK
}

// checkNonce holds P11.1 of a nonce.
func checkNonce(t *testing.T, at int, gen uint64) {
	t.Helper()
	want, why := nonced(at, gen), api.OK
	if at < 0 || at > 63 {
		want, why = "", api.ErrArg
	}
	if got, e := seal.Nonce(at, gen); got != want || e != why {
		t.Fatalf("Nonce(%v, %v) = %x, %v, want %x, %v", at, gen, got, e, want, why)
	}
}

// checkSeal holds P11.1 of any data; and P11.3 of what is sealed: it is 24 bytes longer, it is opened, and that, sealed again, is the text.
func checkSeal(t *testing.T, x sector, data string) {
	t.Helper()
	why := whyNot(x)
	if why == api.OK && len(data) > 64 {
		why = api.ErrSize
	}
	// What is handed in is held against copies that no call has seen (R4).
	key, own := strings.Clone(x.key), strings.Clone(data)
	s, e := seal.Seal(x.key, x.kind, x.at, x.gen, x.logical, data)
	if why != api.OK {
		if s != "" || e != why {
			t.Fatalf("Seal(%v, %.100q) = %x, %v, want %v", told(x), data, s, e, why)
		}
		return
	}
	want := worded(t, sector{key, x.kind, x.at, x.gen, x.logical}, own)
	if s != want || e != api.OK || len(s) != len(own)+24 {
		t.Fatalf("Seal(%v, %q) = %x, %v, want %x", told(x), data, s, e, want)
	}
	gen, opened, e := seal.Open(x.key, x.kind, x.at, x.logical, s)
	if gen != x.gen || opened != own || e != api.OK {
		t.Fatalf("Open(%v, %x) = %v, %x, %v, want %x", told(x), s, gen, opened, e, own)
	}
	if again, e := seal.Seal(x.key, x.kind, x.at, gen, x.logical, opened); again != want || e != api.OK {
		t.Fatalf("sealed again, %v, %q is %x, %v, want %x", told(x), opened, again, e, want)
	}
	if x.key != key || data != own || s != want {
		t.Fatalf("an argument is changed: %x, %x, %x", x.key, data, s)
	}
}

// checkOpen holds P11.2 of any text; and P11.3: what is opened, sealed again, is that text.
func checkOpen(t *testing.T, x sector, s string) {
	t.Helper()
	var wantGen uint64
	want, why := "", whyNot(x)
	if why == api.OK {
		why = api.ErrAuth
		if len(s) >= 24 && len(s) <= 88 {
			if gen, data, is := unworded(t, x, s); is {
				wantGen, want, why = gen, data, api.OK
			}
		}
	}
	gen, data, e := seal.Open(x.key, x.kind, x.at, x.logical, s)
	if gen != wantGen || data != want || e != why {
		t.Fatalf("Open(%v, %.100x) = %v, %x, %v, want %v, %x, %v", told(x), s, gen, data, e, wantGen, want, why)
	}
	if e == api.OK {
		if again, e := seal.Seal(x.key, x.kind, x.at, gen, x.logical, data); again != s || e != api.OK {
			t.Fatalf("Seal of what was opened is %x, %v, want %x", again, e, s)
		}
	}
}

// random is a text of so many bytes.
func random(r *rand.Rand, many int) string {
	b := make([]byte, many)
	r.Read(b)
	return string(b)
}

// someSector is one that may be.
func someSector(r *rand.Rand) sector {
	return sector{random(r, 16+16*r.Intn(2)), r.Intn(3), r.Intn(64), r.Uint64(), r.Uint64()}
}

func TestNoncesAtRandom(t *testing.T) {
	r := rand.New(rand.NewSource(11))
	for range 5000 {
		checkNonce(t, r.Intn(64), r.Uint64())
		checkNonce(t, int(r.Uint64()), r.Uint64())
	}
}

func TestTextsAtRandom(t *testing.T) {
	r := rand.New(rand.NewSource(111))
	for range 2000 {
		x := someSector(r)
		data := random(r, r.Intn(65))
		checkSeal(t, x, data)
		checkOpen(t, x, worded(t, x, data))
		checkOpen(t, x, random(r, r.Intn(100)))
	}
}

// All data's sizes, by all sectors, kinds and both keys.
func TestDataOfEachSize(t *testing.T) {
	for size := range 130 {
		for at := range 64 {
			x := sector{of(16 + 16*(at%2)), (at + size) % 3, at, uint64(size) << at, ^uint64(at)}
			checkSeal(t, x, of(size))
		}
	}
}

// Each byte is a byte as any other, wherever it stands.
func TestDataOfEachByte(t *testing.T) {
	for b := range 256 {
		each := uint64(b) * 0x0101010101010101
		for _, size := range []int{16, 32} {
			x := sector{filled(byte(b), size), b % 3, b % 64, each, ^each}
			checkSeal(t, x, filled(byte(b), 1))
			checkSeal(t, x, filled(byte(b), 64))
			checkSeal(t, x, "a"+filled(byte(b), 1)+"a")
		}
	}
}

// Each byte of the numbers counts, each by itself.
func TestNumbersOfEachBit(t *testing.T) {
	for bit := range 64 {
		for at := range 64 {
			checkNonce(t, at, 1<<bit)
			checkNonce(t, at, ^uint64(1<<bit))
		}
		for _, n := range []uint64{1 << bit, 1<<bit - 1, ^uint64(1 << bit)} {
			checkSeal(t, sector{of(16), 0, 3, n, 7}, "some data")
			checkSeal(t, sector{of(32), 1, 3, 258, n}, "some data")
		}
	}
}

// P1: no call panics at any arguments, and all are as they are told.

func FuzzNonce(f *testing.F) {
	for _, at := range places {
		f.Add(at, uint64(258))
	}
	f.Fuzz(checkNonce)
}

func FuzzSeal(f *testing.F) {
	for _, size := range keySizes {
		for _, at := range places {
			f.Add(of(size), 1, at, uint64(258), uint64(7), of(size))
			f.Add(of(size), at, 1, uint64(258), uint64(7), of(size))
		}
	}
	f.Fuzz(func(t *testing.T, key string, kind, at int, gen, logical uint64, data string) {
		checkSeal(t, sector{key, kind, at, gen, logical}, data)
	})
}

func FuzzOpen(f *testing.F) {
	for _, x := range printed {
		f.Add(of(x.key), x.kind, x.at, x.logical, unhex(f, x.text))
	}
	for _, size := range textSizes {
		f.Add(of(16), 0, 3, uint64(7), of(size))
		f.Add(of(17), 3, 64, uint64(7), of(size))
	}
	f.Fuzz(func(t *testing.T, key string, kind, at int, logical uint64, s string) {
		checkOpen(t, sector{key: key, kind: kind, at: at, logical: logical}, s)
	})
}
