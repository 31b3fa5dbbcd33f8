package trust_test

import (
	"crypto/hmac"
	"crypto/sha256"
	"encoding/binary"
	"math/big"
	"math/rand"
	"slices"
	"testing"

	"saltus/api"
	"saltus/trust"
)

// The tests here hold the calls against the chapter's words told in another way: tags by the library's HMAC, numbers by whole ones.

// tagged is a text's tag, as the library tells it.
func tagged(key, s string) []byte {
	h := hmac.New(sha256.New, []byte(key))
	h.Write([]byte(s))
	return h.Sum(nil)
}

// named is a slot's key for a name that is not too long.
func named(key, name string) string {
	text := binary.LittleEndian.AppendUint16(nil, uint16(len(name)))
	tag := tagged(key, string(text)+name)
	if len(key) == 16 {
		tag = tag[:16]
	}
	return string(tag)
}

// checkWord holds P10.2 of a key and a text: the number's bytes, the highest first, are the tag's first 8, the other way round.
func checkWord(t *testing.T, key, text string) {
	t.Helper()
	tag := tagged(key, text)
	slices.Reverse(tag[:8])
	want := new(big.Int).SetBytes(tag[:8])
	if got := trust.Word(key, text); new(big.Int).SetUint64(got).Cmp(want) != 0 {
		t.Fatalf("Word by a key of %v bytes, of %v bytes = %x, want %x", len(key), len(text), got, want)
	}
}

// checkDerive holds P10.2 of any slot and name; and P10.3: a key is as long as the slot's.
func checkDerive(t *testing.T, slot api.Trust, name string) {
	t.Helper()
	got, e := trust.Derive(slot, name)
	want, why := "", api.OK
	switch {
	case !fits(len(slot.Key)) || slot.Boots >= 1<<32:
		why = api.ErrArg
	case len(name) > 4096:
		why = api.ErrSize
	default:
		want = named(slot.Key, name)
	}
	if got != want || e != why || e == api.OK && len(got) != len(slot.Key) {
		t.Fatalf("Derive(%v, %v bytes) = %x, %v, want %x, %v", told(slot), len(name), got, e, want, why)
	}
}

func TestWordsByKeysOfEachSize(t *testing.T) {
	for size := range 3 * 64 {
		for _, text := range []string{"", "Hi There", of(100)} {
			checkWord(t, of(size), text)
			checkWord(t, filled(0, size), text)
			checkWord(t, filled(0xff, size), text)
		}
	}
	for _, size := range keySizes {
		checkWord(t, of(size), "Hi There")
	}
	checkWord(t, of(1<<20+1), "Hi There")
}

func TestWordsOfTextsOfEachSize(t *testing.T) {
	for size := range 3 * 64 {
		for _, key := range []string{"", "k", of(16), of(32), of(65)} {
			checkWord(t, key, of(size))
			checkWord(t, key, filled(0, size))
		}
	}
	for _, size := range append(nameSizes, 1<<20+1) {
		checkWord(t, "k", of(size))
		checkWord(t, of(65), of(size))
	}
}

// Each of the 8 bytes is, by some text, each byte.
func TestWordsOfEachByte(t *testing.T) {
	var seen [8][256]bool
	for i := range 4000 {
		text := string(binary.LittleEndian.AppendUint16(nil, uint16(i)))
		checkWord(t, longKey, text)
		for at, b := range binary.LittleEndian.AppendUint64(nil, trust.Word(longKey, text)) {
			seen[at][b] = true
		}
	}
	for at := range seen {
		if slices.Contains(seen[at][:], false) {
			t.Errorf("byte %v is not each byte: %v", at, seen[at])
		}
	}
}

func TestKeysForNamesOfEachSize(t *testing.T) {
	for _, key := range []string{of(16), of(32), filled(0, 16), filled(0, 32), filled(0xff, 16), filled(0xff, 32)} {
		for size := range 3 * 64 {
			checkDerive(t, api.Trust{Key: key}, of(size))
			checkDerive(t, api.Trust{Key: key}, filled(0, size))
		}
		for _, size := range append(nameSizes, 255, 256, 257, 511, 512) {
			checkDerive(t, api.Trust{Key: key}, of(size))
			checkDerive(t, api.Trust{Key: key}, filled(0xff, size))
		}
	}
}

// Each byte is a name as any other, and counts wherever it stands; and so does each bit of the slot's key.
func TestKeysForNamesOfEachByte(t *testing.T) {
	for _, size := range []int{16, 32} {
		for b := range 256 {
			checkDerive(t, api.Trust{Key: of(size)}, filled(byte(b), 1))
			checkDerive(t, api.Trust{Key: of(size)}, "a"+filled(byte(b), 1)+"a")
			checkDerive(t, api.Trust{Key: filled(byte(b), size)}, "label")
		}
		for bit := range 8 * size {
			key := make([]byte, size)
			key[bit/8] = 1 << (bit % 8)
			checkDerive(t, api.Trust{Key: string(key)}, "label")
		}
	}
}

// P10.1 and P10.3, of calls one behind the other: what stands behind each is what stood ahead of it, or one number of it that grew.
func TestCallsOneBehindTheOther(t *testing.T) {
	for seed := range int64(40) {
		r := rand.New(rand.NewSource(seed))
		key := of([]int{16, 32}[seed%2])
		slot, e := trust.New(key)
		if e != api.OK {
			t.Fatal(e)
		}
		slot.Boots = []uint64{0, 1<<32 - 100}[seed/2%2]
		for range 400 {
			slot = step(t, r, slot)
			if slot.Key != key {
				t.Fatalf("seed %v: the key is %x", seed, slot.Key)
			}
		}
	}
}

// step is the slot behind a call that may have refused.
func step(t *testing.T, r *rand.Rand, slot api.Trust) api.Trust {
	t.Helper()
	want, why := slot, api.OK
	var got api.Trust
	var e api.Errno
	if r.Intn(2) == 0 {
		got, e = trust.Boot(slot)
		want.Boots++
		if want.Boots == 1<<32 {
			want, why = api.Trust{}, api.ErrRange
		}
	} else {
		n := slot.Count + uint64(r.Intn(7)) - 3
		if r.Intn(20) == 0 {
			n = r.Uint64() >> r.Intn(64)
		}
		got, e = trust.Commit(slot, n)
		want.Count = n
		if new(big.Int).SetUint64(n).Cmp(new(big.Int).SetUint64(slot.Count)) <= 0 {
			want, why = api.Trust{}, api.ErrRange
		}
	}
	if got != want || e != why {
		t.Fatalf("of %v: %v, %v, want %v, %v", slot, got, e, want, why)
	}
	if e != api.OK {
		return slot
	}
	return got
}

// P1: no call panics at any arguments, and all are as told here.

func FuzzSlot(f *testing.F) {
	f.Add(uint64(0), uint64(0), uint64(1), "", "")
	f.Add(uint64(7), uint64(1<<32-1), uint64(7), of(16), "label")
	f.Add(uint64(1<<64-1), uint64(1<<32-2), uint64(0), of(32), of(4096))
	f.Add(uint64(1), uint64(1<<32), uint64(2), of(32), of(4097))
	f.Fuzz(func(t *testing.T, count, begun, n uint64, key, name string) {
		slot := api.Trust{Count: count, Boots: begun, Key: key}
		may := fits(len(key)) && begun < 1<<32
		if got, e := trust.New(key); (e == api.OK) != fits(len(key)) || e == api.OK && got != (api.Trust{Key: key}) {
			t.Fatalf("New(%x) = %v, %v", key, got, e)
		}
		if got, e := trust.Boot(slot); (e == api.OK) != (may && begun < 1<<32-1) || e == api.OK && got != (api.Trust{Count: count, Boots: begun + 1, Key: key}) {
			t.Fatalf("Boot(%v) = %v, %v", slot, got, e)
		}
		if got, e := trust.Commit(slot, n); (e == api.OK) != (may && n > count) || e == api.OK && got != (api.Trust{Count: n, Boots: begun, Key: key}) {
			t.Fatalf("Commit(%v, %v) = %v, %v", slot, n, got, e)
		}
		checkDerive(t, slot, name)
		checkWord(t, key, name)
	})
}
