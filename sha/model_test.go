package sha_test

import (
	"crypto/sha256"
	"encoding"
	"encoding/binary"
	"math/big"
	"math/rand"
	"slices"
	"strings"
	"testing"

	"saltus/api"
	"saltus/sha"
)

// The tests here hold the calls against the library: its whole numbers of any size tell the roots, and its SHA-256 the sums. It can be set to any state, and so tells a block's mixing, too.

// P3.1: a word is the part behind the point of a root, just if the root, rounded down, and 1 more are on both sides of it.
func checkRoots(t *testing.T, words []uint32, power int) {
	t.Helper()
	p := int64(1)
	for i, w := range words {
		for p++; !big.NewInt(p).ProbablyPrime(0); p++ {
		}
		whole := int64(0)
		for raised(big.NewInt(whole+1), power).Cmp(big.NewInt(p)) <= 0 {
			whole++
		}
		root := big.NewInt(whole<<32 + int64(w))
		prime := new(big.Int).Lsh(big.NewInt(p), uint(32*power))
		more := new(big.Int).Add(root, big.NewInt(1))
		if raised(root, power).Cmp(prime) > 0 || raised(more, power).Cmp(prime) <= 0 {
			t.Errorf("word %v, of prime %v: %x", i, p, w)
		}
	}
}

func raised(n *big.Int, power int) *big.Int {
	return new(big.Int).Exp(n, big.NewInt(int64(power)), nil)
}

func TestStartIsSquareRoots(t *testing.T) {
	if s := sha.Start(); len(s) != 8 {
		t.Errorf("%v words", len(s))
	}
	checkRoots(t, sha.Start(), 2)
}

func TestKeysAreCubeRoots(t *testing.T) {
	if k := sha.Keys(); len(k) != 64 {
		t.Errorf("%v keys", len(k))
	}
	checkRoots(t, sha.Keys(), 3)
}

// padded is a text padded, told from its end.
func padded(s string) string {
	size := 64
	for size < len(s)+9 {
		size += 64
	}
	b := make([]byte, size)
	binary.BigEndian.PutUint64(b[size-8:], uint64(len(s))*8)
	b[len(s)] = 128
	copy(b, s)
	return string(b)
}

// checkText holds P3.1 of a text against the model; and P3.3: a text padded is whole blocks and begins with the text, and its sum is what they are mixed to, one by one.
func checkText(t *testing.T, s string) {
	t.Helper()
	p := sha.Pad(s)
	if p != padded(s) || len(p)%64 != 0 || !strings.HasPrefix(p, s) {
		t.Fatalf("Pad of %v bytes: %v bytes, the last ones %x", len(s), len(p), p[max(0, len(p)-64):])
	}
	sum := sha.Sum(s)
	want := sha256.Sum256([]byte(s))
	if sum != string(want[:]) {
		t.Fatalf("Sum of %v bytes = %x, want %x", len(s), sum, want)
	}
	state := sha.Start()
	for ; p != ""; p = p[64:] {
		var e api.Errno
		if state, e = sha.Mix(state, p[:64]); e != api.OK {
			t.Fatal(e)
		}
	}
	if string(bytesOf(state)) != sum {
		t.Fatalf("Sum of %v bytes = %x, its blocks are mixed to %x", len(s), sum, state)
	}
}

// bytesOf are the words' bytes, the highest of each first.
func bytesOf(words []uint32) []byte {
	var b []byte
	for _, w := range words {
		b = binary.BigEndian.AppendUint32(b, w)
	}
	return b
}

func TestTextsOfEachLength(t *testing.T) {
	for many := range 4 * 64 {
		checkText(t, of(many))
		checkText(t, strings.Repeat("\x00", many))
		checkText(t, strings.Repeat("\xff", many))
	}
	for _, many := range []int{1 << 10, 1<<13 - 1, 1 << 13, 1<<16 + 55, 1<<16 + 56} {
		checkText(t, of(many))
	}
}

func TestTextsOfEachByte(t *testing.T) {
	for b := range 256 {
		checkText(t, string([]byte{byte(b)}))
		checkText(t, of(64)+string([]byte{byte(b)}))
	}
}

// mixed is a state behind a block, as the library tells it.
func mixed(t *testing.T, state []uint32, block string) []uint32 {
	t.Helper()
	h := sha256.New()
	kept, err := h.(encoding.BinaryMarshaler).MarshalBinary()
	if err != nil {
		t.Fatal(err)
	}
	const words = 4 // behind 4 bytes that tell what it is
	copy(kept[words:], bytesOf(state))
	if err := h.(encoding.BinaryUnmarshaler).UnmarshalBinary(kept); err != nil {
		t.Fatal(err)
	}
	h.Write([]byte(block))
	if kept, err = h.(encoding.BinaryMarshaler).MarshalBinary(); err != nil {
		t.Fatal(err)
	}
	next := make([]uint32, 8)
	for i := range next {
		next[i] = binary.BigEndian.Uint32(kept[words+4*i:])
	}
	return next
}

func checkMix(t *testing.T, state []uint32, block string) {
	t.Helper()
	next, e := sha.Mix(state, block)
	if want := mixed(t, state, block); !slices.Equal(next, want) || e != api.OK {
		t.Fatalf("Mix(%x, %x) = %x, %v, want %x", state, block, next, e, want)
	}
}

// P3.2, of states that no text need lead to: of each bit of a state and of a block, alone, and of many at random.
func TestMixOfAnyState(t *testing.T) {
	none, all := strings.Repeat("\x00", 64), strings.Repeat("\xff", 64)
	checkMix(t, make([]uint32, 8), none)
	checkMix(t, make([]uint32, 8), all)
	checkMix(t, slices.Repeat([]uint32{top}, 8), none)
	checkMix(t, slices.Repeat([]uint32{top}, 8), all)
	for bit := range 8 * 32 {
		state := make([]uint32, 8)
		state[bit/32] = 1 << (bit % 32)
		checkMix(t, state, none)
	}
	for bit := range 8 * 64 {
		block := make([]byte, 64)
		block[bit/8] = 1 << (bit % 8)
		checkMix(t, sha.Start(), string(block))
	}
	r := rand.New(rand.NewSource(3))
	for range 1000 {
		state, block := make([]uint32, 8), make([]byte, 64)
		for i := range state {
			state[i] = r.Uint32()
		}
		r.Read(block)
		checkMix(t, state, string(block))
	}
}

// P3.3: texts padded are the same, just if the texts are: also of those that end as what is put behind them begins.
func TestTextsPaddedAreApart(t *testing.T) {
	seen := map[string]string{}
	keep := func(s string) {
		p := sha.Pad(s)
		if other, ok := seen[p]; ok && other != s {
			t.Errorf("%x and %x are padded the same", other, s)
		}
		seen[p] = s
	}
	for many := range 130 {
		whole := padded(of(many))
		for end := range len(whole) + 1 {
			keep(whole[:end])
		}
	}
	if sha.Pad("a") != sha.Pad(string([]byte{'a'})) {
		t.Error("the same text is padded in two ways")
	}
}

// P3.3: a sum goes on block by block: from where the first blocks have led to.
func TestSumGoesOn(t *testing.T) {
	for _, blocks := range []int{1, 2, 3} {
		for _, behind := range []int{0, 1, 55, 56, 64} {
			s := of(64*blocks + behind)
			state := sha.Start()
			for i := range blocks {
				state, _ = sha.Mix(state, s[64*i:64*i+64])
			}
			for rest := sha.Pad(s)[64*blocks:]; rest != ""; rest = rest[64:] {
				state, _ = sha.Mix(state, rest[:64])
			}
			if sum := sha.Sum(s); sum != string(bytesOf(state)) || len(sum) != 32 {
				t.Errorf("%v blocks and %v bytes: %x, want %x", blocks, behind, sum, bytesOf(state))
			}
		}
	}
}

func FuzzText(f *testing.F) {
	f.Add("")
	f.Add("abc")
	f.Add(of(55))
	f.Add(of(56))
	f.Add(of(64))
	f.Fuzz(func(t *testing.T, s string) { checkText(t, s) })
}

// P1 and P3.2: Mix ends without a panic at all arguments.
func FuzzMix(f *testing.F) {
	f.Add([]byte(of(32)), of(64))
	f.Add([]byte(of(31)), of(64))
	f.Add([]byte(of(32)), of(63))
	f.Add([]byte(nil), "")
	f.Fuzz(func(t *testing.T, b []byte, block string) {
		var state []uint32
		for ; len(b) >= 4; b = b[4:] {
			state = append(state, binary.BigEndian.Uint32(b))
		}
		if len(state) == 8 && len(block) == 64 {
			checkMix(t, state, block)
			return
		}
		if next, e := sha.Mix(state, block); len(next) != 0 || e != api.ErrSize {
			t.Fatalf("Mix(%x, %x) = %x, %v, want ErrSize", state, block, next, e)
		}
	})
}
