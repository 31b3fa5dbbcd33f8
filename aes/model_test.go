package aes_test

import (
	libaes "crypto/aes"
	"math/rand"
	"strings"
	"testing"

	"saltus/aes"
	"saltus/api"
	"saltus/field"
)

// The tests here hold the calls against the chapter's words, told in another way (each byte by the row and the column that it is in, each word of a key by those that it is made of), and against the library's AES.

// table is a block, row by row.
type table [4][4]byte

func tableOf(block string) table {
	var x table
	for i := range 16 {
		x[i%4][i/4] = block[i]
	}
	return x
}

func (x table) told() string {
	var b strings.Builder
	for c := range 4 {
		for r := range 4 {
			b.WriteByte(x[r][c])
		}
	}
	return b.String()
}

// boxes are told once for all tests, since each takes a while.
var boxes = func() (l [256]byte) {
	for a := range l {
		l[a] = field.Box(byte(a))
	}
	return l
}()

func boxed(s string) string {
	b := []byte(s)
	for i := range b {
		b[i] = boxes[b[i]]
	}
	return string(b)
}

func turned(block string) string {
	x := tableOf(block)
	for r, row := range x {
		copy(x[r][:], append(row[r:], row[:r]...))
	}
	return x.told()
}

func mixed(block string) string {
	factors := [4][4]byte{{2, 3, 1, 1}, {1, 2, 3, 1}, {1, 1, 2, 3}, {3, 1, 1, 2}}
	x := tableOf(block)
	var m table
	for r := range 4 {
		for c := range 4 {
			for i := range 4 {
				m[r][c] ^= field.Mul(factors[r][i], x[i][c])
			}
		}
	}
	return m.told()
}

func xored(a, b string) string {
	l := []byte(a)
	for i := range l {
		l[i] ^= b[i]
	}
	return string(l)
}

// words are a key's words, so many in all.
func words(key string, many int) []string {
	k := len(key) / 4
	var l []string
	for i := range many {
		if i < k {
			l = append(l, key[4*i:4*i+4])
			continue
		}
		ahead := l[i-1]
		if i%k == 0 {
			ahead = boxed(ahead[1:] + ahead[:1])
			power := field.Pow(2, i/k-1)
			ahead = xored(ahead, string([]byte{power, 0, 0, 0}))
		} else if k == 8 && i%8 == 4 {
			ahead = boxed(ahead)
		}
		l = append(l, xored(l[i-k], ahead))
	}
	return l
}

// roundKeys are a key's round keys, k + 7 of them.
func roundKeys(key string) []string {
	many := len(key)/4 + 7
	all := strings.Join(words(key, 4*many), "")
	var l []string
	for i := range many {
		l = append(l, all[16*i:16*i+16])
	}
	return l
}

func encrypted(key, block string) string {
	keys := roundKeys(key)
	block = xored(block, keys[0])
	for i, k := range keys[1:] {
		block = turned(boxed(block))
		if i+2 < len(keys) {
			block = mixed(block)
		}
		block = xored(block, k)
	}
	return block
}

// checkBlock holds the steps of a block (P6.1) against the chapter's words; and P6.3: four times turned, and four times mixed, it is as it was.
func checkBlock(t *testing.T, block string) {
	t.Helper()
	for _, x := range []struct {
		name  string
		step  func(string) (string, api.Errno)
		want  func(string) string
		again bool
	}{
		{"Boxed", aes.Boxed, boxed, false},
		{"Turned", aes.Turned, turned, true},
		{"Mixed", aes.Mixed, mixed, true},
	} {
		now := block
		for range 4 {
			next, e := x.step(now)
			if want := x.want(now); next != want || e != api.OK {
				t.Fatalf("%v(%x) = %x, %v, want %x", x.name, now, next, e, want)
			}
			now = next
		}
		if x.again && now != block {
			t.Fatalf("%v, four times, of %x = %x", x.name, block, now)
		}
	}
}

// checkKey holds a key's round keys (P6.1) against the chapter's words.
func checkKey(t *testing.T, key string) {
	t.Helper()
	keys, e := aes.Keys(key)
	want := roundKeys(key)
	if e != api.OK || len(keys) != len(want) {
		t.Fatalf("Keys(%x): %v round keys, %v, want %v", key, len(keys), e, len(want))
	}
	for i, k := range keys {
		if k != want[i] {
			t.Fatalf("Keys(%x): round key %v is %x, want %x", key, i, k, want[i])
		}
	}
}

// checkEncrypt holds P6.2 against the chapter's words, and against the library; and P6.3: what is encrypted tells the block that it was, so no other one is encrypted to it.
func checkEncrypt(t *testing.T, key, block string) {
	t.Helper()
	b, e := aes.Encrypt(key, block)
	if want := encrypted(key, block); b != want || e != api.OK {
		t.Fatalf("Encrypt(%x, %x) = %x, %v, want %x", key, block, b, e, want)
	}
	lib, err := libaes.NewCipher([]byte(key))
	if err != nil {
		t.Fatal(err)
	}
	there, back := make([]byte, 16), make([]byte, 16)
	lib.Encrypt(there, []byte(block))
	if b != string(there) {
		t.Fatalf("Encrypt(%x, %x) = %x, want %x", key, block, b, there)
	}
	lib.Decrypt(back, []byte(b))
	if string(back) != block {
		t.Fatalf("Encrypt(%x, %x) = %x, of which the library makes %x", key, block, b, back)
	}
}

// edges are texts of so many bytes: of one byte everywhere, and of a byte or a bit that stands alone.
func edges(many int) []string {
	var l []string
	for b := range 256 {
		l = append(l, strings.Repeat(string([]byte{byte(b)}), many))
	}
	for i := range many {
		for bit := range 8 {
			b := make([]byte, many)
			b[i] = 1 << bit
			l = append(l, string(b))
			for j := range b {
				b[j] ^= 255
			}
			l = append(l, string(b))
		}
	}
	return l
}

// random is a text of so many bytes.
func random(r *rand.Rand, many int) string {
	b := make([]byte, many)
	r.Read(b)
	return string(b)
}

func TestBlocksOfEachByte(t *testing.T) {
	for _, block := range edges(16) {
		checkBlock(t, block)
	}
	// Each byte, in each place.
	for i := range 16 {
		for a := range 256 {
			b := []byte(of(16))
			b[i] = byte(a)
			checkBlock(t, string(b))
		}
	}
}

func TestKeysOfEachByte(t *testing.T) {
	for _, many := range []int{16, 32} {
		for _, key := range edges(many) {
			checkKey(t, key)
			checkEncrypt(t, key, of(16))
		}
		for _, block := range edges(16) {
			checkEncrypt(t, of(many), block)
		}
	}
}

func TestKeysAndBlocksAtRandom(t *testing.T) {
	r := rand.New(rand.NewSource(6))
	for range 500 {
		block := random(r, 16)
		checkBlock(t, block)
		for _, many := range []int{16, 32} {
			key := random(r, many)
			checkKey(t, key)
			checkEncrypt(t, key, block)
		}
	}
}

// What is encrypted is encrypted again, by a key that is made of what came out: a fault anywhere ahead shows at the end.
func TestEncryptedAgainAndAgain(t *testing.T) {
	for _, many := range []int{16, 32} {
		key, block := of(many), of(16)
		for range 1000 {
			checkEncrypt(t, key, block)
			b, _ := aes.Encrypt(key, block)
			key, block = (b + key)[:many], b
		}
	}
}

// P6.3: different blocks are encrypted, by one key, to different ones; and each step makes different ones of them.
func TestDifferentBlocksStayDifferent(t *testing.T) {
	blocks := map[string]bool{}
	for _, block := range edges(16) {
		blocks[block] = true
	}
	r := rand.New(rand.NewSource(63))
	for range 2000 {
		blocks[random(r, 16)] = true
	}
	encrypt := func(key string) func(string) (string, api.Errno) {
		return func(block string) (string, api.Errno) { return aes.Encrypt(key, block) }
	}
	for name, made := range map[string]func(string) (string, api.Errno){
		"Boxed": aes.Boxed, "Turned": aes.Turned, "Mixed": aes.Mixed,
		"Encrypt, short key": encrypt(of(16)), "Encrypt, long key": encrypt(of(32)),
		"Encrypt, key of bytes 0": encrypt(strings.Repeat("\x00", 16)),
	} {
		from := map[string]string{}
		for block := range blocks {
			b, e := made(block)
			if other, ok := from[b]; ok || e != api.OK {
				t.Errorf("%v: %x and %x are both %x, %v", name, other, block, b, e)
			}
			from[b] = block
		}
	}
}

// P1 and P6.1: no call panics at any texts, and all are as they are told.

func FuzzEncrypt(f *testing.F) {
	for _, key := range []int{0, 15, 16, 17, 24, 31, 32, 33} {
		for _, block := range []int{0, 15, 16, 17} {
			f.Add(of(key), of(block))
		}
	}
	f.Fuzz(func(t *testing.T, key, block string) {
		isKey, isBlock := len(key) == 16 || len(key) == 32, len(block) == 16
		if keys, e := aes.Keys(key); !isKey && (e != api.ErrSize || len(keys) != 0) {
			t.Fatalf("Keys(%x) = %x, %v", key, keys, e)
		}
		for _, step := range []func(string) (string, api.Errno){aes.Boxed, aes.Turned, aes.Mixed} {
			if b, e := step(block); !isBlock && (e != api.ErrSize || b != "") {
				t.Fatalf("a step of %x = %x, %v", block, b, e)
			}
		}
		if b, e := aes.Encrypt(key, block); !(isKey && isBlock) && (e != api.ErrSize || b != "") {
			t.Fatalf("Encrypt(%x, %x) = %x, %v", key, block, b, e)
		}
		if isKey {
			checkKey(t, key)
		}
		if isBlock {
			checkBlock(t, block)
		}
		if isKey && isBlock {
			checkEncrypt(t, key, block)
		}
	})
}
