package ghash_test

import (
	"bytes"
	"crypto/aes"
	"crypto/cipher"
	"encoding/binary"
	"math/big"
	"math/rand"
	"slices"
	"strings"
	"testing"

	"saltus/api"
	"saltus/ghash"
)

// The tests here hold the calls against the chapter's words, told in another way (polynomials as whole numbers, of which bit i is that of x to the power of i, multiplied whole and then divided), and against the library's GCM.

// divisor is x^128 + x^7 + x^2 + x + 1.
var divisor = func() *big.Int {
	d := new(big.Int)
	for _, i := range []int{128, 7, 2, 1, 0} {
		d.SetBit(d, i, 1)
	}
	return d
}()

// numberOf is a block's polynomial, as a number.
func numberOf(block string) *big.Int {
	n := new(big.Int)
	for i := range 128 {
		n.SetBit(n, i, uint(block[i/8]>>(7-i%8)&1))
	}
	return n
}

// blockOf is the block of a polynomial.
func blockOf(n *big.Int) string {
	b := make([]byte, 16)
	for i := range 128 {
		b[i/8] |= byte(n.Bit(i)) << (7 - i%8)
	}
	return string(b)
}

func product(a, b string) string {
	x, y, p := numberOf(a), numberOf(b), new(big.Int)
	for i := range 128 {
		if y.Bit(i) != 0 {
			p.Xor(p, new(big.Int).Lsh(x, uint(i)))
		}
	}
	for p.BitLen() > 128 {
		p.Xor(p, new(big.Int).Lsh(divisor, uint(p.BitLen()-129)))
	}
	return blockOf(p)
}

// blocks are texts' blocks.
func blocks(head, text string) []string {
	var all bytes.Buffer
	for _, s := range []string{head, text} {
		all.WriteString(s)
		for all.Len()%16 != 0 {
			all.WriteByte(0)
		}
	}
	binary.Write(&all, binary.BigEndian, [2]uint64{8 * uint64(len(head)), 8 * uint64(len(text))})
	var l []string
	for all.Len() > 0 {
		l = append(l, string(all.Next(16)))
	}
	return l
}

func sum(h, head, text string) string {
	s := zero
	for _, b := range blocks(head, text) {
		s = product(xored(s, b), h)
	}
	return s
}

// times is what Mul answers for two blocks.
func times(t *testing.T, a, b string) string {
	t.Helper()
	p, e := ghash.Mul(a, b)
	if e != api.OK || len(p) != 16 {
		t.Fatalf("Mul(%x, %x) = %x, %v", a, b, p, e)
	}
	return p
}

// checkMul holds products of three blocks (P7.1) against the chapter's words; and P7.2: they do not hang on order, and are spread over sums, and a byte 128 and bytes 0 behind it are 1.
func checkMul(t *testing.T, a, b, c string) {
	t.Helper()
	ab, ac, bc := times(t, a, b), times(t, a, c), times(t, b, c)
	if want := product(a, b); ab != want {
		t.Fatalf("Mul(%x, %x) = %x, want %x", a, b, ab, want)
	}
	for _, x := range []struct{ what, have, want string }{
		{"b times a", times(t, b, a), ab},
		{"a times b, times c", times(t, ab, c), times(t, a, bc)},
		{"a times c, times b", times(t, ac, b), times(t, bc, a)},
		{"a, times b plus c", times(t, a, xored(b, c)), xored(ab, ac)},
		{"a plus b, times c", times(t, xored(a, b), c), xored(ac, bc)},
		{"a times 1", times(t, a, one), a},
		{"1 times a", times(t, one, a), a},
		{"a times 0", times(t, a, zero), zero},
		{"0 times a", times(t, zero, a), zero},
	} {
		if x.have != x.want {
			t.Fatalf("a %x, b %x, c %x: %v is %x, want %x", a, b, c, x.what, x.have, x.want)
		}
	}
}

// checkTexts holds a head's and a text's blocks, and their sum, against the chapter's words.
func checkTexts(t *testing.T, h, head, text string) {
	t.Helper()
	want := blocks(head, text)
	if l := ghash.Blocks(head, text); !slices.Equal(l, want) {
		t.Fatalf("Blocks(%x, %x) = %x, want %x", head, text, l, want)
	}
	s, e := ghash.Sum(h, head, text)
	if want := sum(h, head, text); s != want || e != api.OK {
		t.Fatalf("Sum(%x, %x, %x) = %x, %v, want %x", h, head, text, s, e, want)
	}
}

// checkSealed holds the sum of a head and of what the library makes of a text against the library's tag: by the block that the key makes of 0, and xor the one that it makes of the nonce and 1.
func checkSealed(t *testing.T, key, nonce, head, text string) {
	t.Helper()
	lib, err := aes.NewCipher([]byte(key))
	if err != nil {
		t.Fatal(err)
	}
	sealer, err := cipher.NewGCM(lib)
	if err != nil {
		t.Fatal(err)
	}
	sealed := string(sealer.Seal(nil, []byte(nonce), []byte(text), []byte(head)))
	there, tag := sealed[:len(text)], sealed[len(text):]
	h, mask := make([]byte, 16), make([]byte, 16)
	lib.Encrypt(h, h)
	lib.Encrypt(mask, []byte(nonce+"\x00\x00\x00\x01"))
	s, e := ghash.Sum(string(h), head, there)
	if e != api.OK || xored(s, string(mask)) != tag {
		t.Fatalf("Sum(%x, %x, %x) = %x, %v, want %x", h, head, there, s, e, xored(tag, string(mask)))
	}
}

// random is a text of so many bytes.
func random(r *rand.Rand, many int) string {
	b := make([]byte, many)
	r.Read(b)
	return string(b)
}

// edges are blocks: of one byte everywhere, and of a bit that stands alone.
func edges() []string {
	var l []string
	for b := range 256 {
		l = append(l, strings.Repeat(string([]byte{byte(b)}), 16))
	}
	for i := range 128 {
		l = append(l, bit(i), xored(bit(i), strings.Repeat("\xff", 16)))
	}
	return l
}

func TestMulOfEachTwoBits(t *testing.T) {
	for i := range 128 {
		for j := range 128 {
			if p, want := times(t, bit(i), bit(j)), product(bit(i), bit(j)); p != want {
				t.Errorf("bits %v and %v: %x, want %x", i, j, p, want)
			}
		}
	}
}

func TestMulOfEdges(t *testing.T) {
	l := edges()
	for i, a := range l {
		for _, b := range []string{zero, one, bit(127), of(16), strings.Repeat("\xff", 16), l[len(l)-1-i]} {
			checkMul(t, a, b, of(17)[1:])
			checkMul(t, b, a, a)
		}
	}
}

func TestMulAtRandom(t *testing.T) {
	r := rand.New(rand.NewSource(7))
	for range 3000 {
		checkMul(t, random(r, 16), random(r, 16), random(r, 16))
	}
}

// A block is multiplied with what came out, again and again: a fault anywhere ahead shows at the end. And each block, to the power of 2^128, is itself again.
func TestMulAgainAndAgain(t *testing.T) {
	a, b := of(16), bit(127)
	for range 2000 {
		if p, want := times(t, a, b), product(a, b); p != want {
			t.Fatalf("Mul(%x, %x) = %x, want %x", a, b, p, want)
		}
		a, b = b, times(t, a, b)
	}
	r := rand.New(rand.NewSource(71))
	for _, a := range append(edges(), random(r, 16), random(r, 16)) {
		p := a
		for range 128 {
			p = times(t, p, p)
		}
		if p != a {
			t.Errorf("%x, squared 128 times, is %x", a, p)
		}
	}
}

// sizes are where a text's blocks begin and end, and one beside.
var sizes = []int{0, 1, 2, 8, 15, 16, 17, 31, 32, 33, 47, 48, 49, 255, 256, 257}

func TestTextsOfEachSize(t *testing.T) {
	r := rand.New(rand.NewSource(72))
	for _, head := range sizes {
		for _, text := range sizes {
			for _, h := range []string{zero, one, bit(1), bit(127), of(16), random(r, 16)} {
				checkTexts(t, h, of(head), of(text + 1)[1:])
				checkTexts(t, h, strings.Repeat("\x00", head), strings.Repeat("\x00", text))
				checkTexts(t, h, random(r, head), random(r, text))
			}
		}
	}
	for range 1000 {
		checkTexts(t, random(r, 16), random(r, r.Intn(70)), random(r, r.Intn(70)))
	}
}

func TestSealedTexts(t *testing.T) {
	r := rand.New(rand.NewSource(73))
	for _, head := range sizes {
		for _, text := range sizes {
			checkSealed(t, random(r, 16), random(r, 12), random(r, head), random(r, text))
			checkSealed(t, random(r, 32), random(r, 12), random(r, head), random(r, text))
		}
	}
	for range 1000 {
		checkSealed(t, random(r, 16), random(r, 12), random(r, r.Intn(500)), random(r, r.Intn(500)))
	}
	checkSealed(t, of(16), of(12), of(100003), of(200001))
}

// A sum is spread over sums of texts that are as long, too: the numbers are there once more, or once less.
func TestSumsOfTextsAsLong(t *testing.T) {
	r := rand.New(rand.NewSource(74))
	summed := func(h, head, text string) string {
		s, e := ghash.Sum(h, head, text)
		if e != api.OK {
			t.Fatal(e)
		}
		return s
	}
	for range 1000 {
		h, head, text := random(r, 16), r.Intn(50), r.Intn(50)
		a, b, c, d := random(r, head), random(r, head), random(r, text), random(r, text)
		both := xored(summed(h, a, c), summed(h, b, d))
		nothing := summed(h, strings.Repeat("\x00", head), strings.Repeat("\x00", text))
		if s := summed(h, xored(a, b), xored(c, d)); s != xored(both, nothing) {
			t.Fatalf("Sum(%x, %x, %x) = %x, want %x", h, xored(a, b), xored(c, d), s, xored(both, nothing))
		}
	}
}

// P7.2: texts that are not the same have not the same blocks.
func TestDifferentTextsHaveDifferentBlocks(t *testing.T) {
	from := map[string][2]string{}
	tell := func(head, text string) {
		t.Helper()
		all := strings.Join(ghash.Blocks(head, text), "")
		now := [2]string{head, text}
		if other, ok := from[all]; ok && other != now {
			t.Errorf("%x and %x have the same blocks, %x", other, now, all)
		}
		from[all] = now
	}
	// Only bytes 0, so that just how many there are is not the same; one 1 ahead of them; and one text, cut at each place to a head and the rest.
	zeros, cut := strings.Repeat("\x00", 50), of(50)
	for head := range 50 {
		for text := range 50 {
			tell(zeros[:head], zeros[:text])
			tell("\x01"+zeros[:head], zeros[:text])
			tell(zeros[:head], "\x01"+zeros[:text])
			if head <= text {
				tell(cut[:head], cut[head:text])
			}
		}
	}
	// A text that ends as the blocks of another one do.
	for _, x := range [][2]string{{"", ""}, {"a", ""}, {"", "a"}, {"a", "b"}, {of(16), of(17)}} {
		all := strings.Join(ghash.Blocks(x[0], x[1]), "")
		tell(x[0], x[1])
		tell(all, "")
		tell("", all)
		tell(x[0], all)
		tell(all, x[1])
	}
	r := rand.New(rand.NewSource(75))
	for range 5000 {
		tell(random(r, r.Intn(40)), random(r, r.Intn(40)))
	}
	if len(from) < 10000 {
		t.Errorf("only %v texts", len(from))
	}
}

// P1 and P7.1: no call panics at any texts, and all are as they are told.

func FuzzMul(f *testing.F) {
	for _, a := range []int{0, 15, 16, 17, 32} {
		for _, b := range []int{0, 15, 16, 17, 32} {
			f.Add(of(a), of(b))
		}
	}
	f.Fuzz(func(t *testing.T, a, b string) {
		if len(a) == 16 && len(b) == 16 {
			checkMul(t, a, b, xored(a, of(16)))
		} else if p, e := ghash.Mul(a, b); e != api.ErrSize || p != "" {
			t.Fatalf("Mul(%x, %x) = %x, %v", a, b, p, e)
		}
	})
}

func FuzzSum(f *testing.F) {
	for _, h := range []int{0, 15, 16, 17, 32} {
		for _, many := range []int{0, 1, 15, 16, 17, 33} {
			f.Add(of(h), of(many), of(33-many))
		}
	}
	f.Fuzz(func(t *testing.T, h, head, text string) {
		if len(h) == 16 {
			checkTexts(t, h, head, text)
		} else if s, e := ghash.Sum(h, head, text); e != api.ErrSize || s != "" {
			t.Fatalf("Sum(%x, %x, %x) = %x, %v", h, head, text, s, e)
		}
	})
}
