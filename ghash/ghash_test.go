package ghash_test

import (
	"encoding/hex"
	"slices"
	"strings"
	"testing"

	"saltus/api"
	"saltus/ghash"
)

// unhex is the text that hexadecimal digits tell; gaps among them do not count.
func unhex(t *testing.T, digits string) string {
	t.Helper()
	b, err := hex.DecodeString(strings.ReplaceAll(digits, " ", ""))
	if err != nil {
		t.Fatal(err)
	}
	return string(b)
}

// of is a text of so many bytes, no two of which side by side are alike.
func of(many int) string {
	b := make([]byte, many)
	for i := range b {
		b[i] = byte(i*37 + 11)
	}
	return string(b)
}

const (
	zero = "\x00\x00\x00\x00\x00\x00\x00\x00\x00\x00\x00\x00\x00\x00\x00\x00"
	one  = "\x80\x00\x00\x00\x00\x00\x00\x00\x00\x00\x00\x00\x00\x00\x00\x00"
)

// bit is the block of which just one bit is 1.
func bit(i int) string {
	b := make([]byte, 16)
	b[i/8] = 1 << (7 - i%8)
	return string(b)
}

// bits is the block of which just these bits are 1.
func bits(l ...int) string {
	b := zero
	for _, i := range l {
		b = xored(b, bit(i))
	}
	return b
}

func xored(a, b string) string {
	l := []byte(a)
	for i := range l {
		l[i] ^= b[i]
	}
	return string(l)
}

// P7.1: Mul

// Products that are printed with GCM's examples, and with those of RFC 8452.
func TestMulIsThePublishedOne(t *testing.T) {
	for _, x := range []struct{ a, b, product string }{
		{"0388dace60b6a392f328c2b971b2fe78", "66e94bd4ef8a2c3b884cfa59ca342b2e", "5e2ec746917062882c85b0685353deb7"},
		{"42831ec2217774244b7221b784d0d49c", "b83b533708bf535d0aa6e52980d53b78", "59ed3f2bb1a0aaa07c9f56c6a504647b"},
		{"feedfacedeadbeeffeedfacedeadbeef", "b83b533708bf535d0aa6e52980d53b78", "ed56aaf8a72d67049fdb9228edba1322"},
	} {
		a, b, want := unhex(t, x.a), unhex(t, x.b), unhex(t, x.product)
		if product, e := ghash.Mul(a, b); product != want || e != api.OK {
			t.Errorf("Mul(%x, %x) = %x, %v, want %x", a, b, product, e, want)
		}
	}
	// Two blocks' products, one behind the other.
	h := unhex(t, "25629347589242761d31f826ba4b757b")
	first, _ := ghash.Mul(unhex(t, "4f4f95668c83dfb6401762bb2d01a262"), h)
	want := unhex(t, "bd9b3997046731fb96251b91f9c99d7a")
	if second, _ := ghash.Mul(xored(first, unhex(t, "d1a24ddd2721d006bbe45f20d3c9f362")), h); second != want {
		t.Errorf("the second product is %x, want %x", second, want)
	}
}

func TestMulOfFewBits(t *testing.T) {
	for _, x := range []struct{ a, b, product string }{
		{zero, zero, zero},
		{zero, one, zero},
		{zero, of(16), zero},
		{one, one, one},
		{one, of(16), of(16)},
		{bit(1), bit(0), bit(1)},
		{bit(1), bit(1), bit(2)},
		{bit(3), bit(4), bit(7)},
		{bit(7), bit(1), bit(8)},
		{bit(63), bit(1), bit(64)},
		{bit(64), bit(63), bit(127)},
		{bit(126), bit(1), bit(127)},
		{bit(127), bit(0), bit(127)},
		{bit(127), bit(1), bits(7, 2, 1, 0)},
		{bit(64), bit(64), bits(7, 2, 1, 0)},
		{bit(127), bit(2), bits(8, 3, 2, 1)},
		{bit(120), bit(120), bits(119, 114, 113, 112)},
		{bit(127), bit(122), bits(123, 122, 121, 7, 2, 1, 0)},
		// x^254 is x^133 + x^128 + x^127 + x^126, of which the first two are divided once more.
		{bit(127), bit(127), bits(127, 126, 12, 7, 6, 5, 7, 2, 1, 0)},
		{bits(0, 1), bits(0, 1), bits(0, 2)},
		{bits(0, 127), bits(0, 1), bits(127, 7, 2)},
	} {
		for _, y := range [][2]string{{x.a, x.b}, {x.b, x.a}} {
			if product, e := ghash.Mul(y[0], y[1]); product != x.product || e != api.OK {
				t.Errorf("Mul(%x, %x) = %x, %v, want %x", y[0], y[1], product, e, x.product)
			}
		}
	}
}

func TestMulOfOtherSizes(t *testing.T) {
	sizes := []int{0, 1, 2, 8, 14, 15, 16, 17, 18, 24, 31, 32, 33, 48, 64, 255, 256, 272, 1 << 16}
	for _, a := range sizes {
		for _, b := range sizes {
			product, e := ghash.Mul(of(a), of(b))
			if a == 16 && b == 16 {
				if e != api.OK || len(product) != 16 {
					t.Errorf("Mul of %v and %v bytes = %x, %v", a, b, product, e)
				}
			} else if e != api.ErrSize || product != "" {
				t.Errorf("Mul of %v and %v bytes = %x, %v, want ErrSize", a, b, product, e)
			}
		}
	}
	// Also where the other one is a block that a call might answer at once.
	for _, s := range []string{"", of(15), of(17), one + "\x00", zero[1:]} {
		for _, b := range []string{zero, one} {
			for _, y := range [][2]string{{s, b}, {b, s}} {
				if product, e := ghash.Mul(y[0], y[1]); product != "" || e != api.ErrSize {
					t.Errorf("Mul(%x, %x) = %x, %v, want ErrSize", y[0], y[1], product, e)
				}
			}
		}
	}
}

// P7.1: Blocks

func TestBlocks(t *testing.T) {
	const zeros = zero + zero
	a, b := of(33), strings.Repeat("\xff", 33)
	numbers := func(head, text string) string {
		return "\x00\x00\x00\x00\x00\x00" + head + "\x00\x00\x00\x00\x00\x00" + text
	}
	for _, x := range []struct {
		head, text string
		blocks     []string
	}{
		{"", "", []string{zero}},
		{"\x00", "", []string{zero, numbers("\x00\x08", "\x00\x00")}},
		{"", "\x00", []string{zero, numbers("\x00\x00", "\x00\x08")}},
		{"a", "", []string{"a" + zeros[:15], numbers("\x00\x08", "\x00\x00")}},
		{"", "a", []string{"a" + zeros[:15], numbers("\x00\x00", "\x00\x08")}},
		{"a", "b", []string{"a" + zeros[:15], "b" + zeros[:15], numbers("\x00\x08", "\x00\x08")}},
		{a[:15], "", []string{a[:15] + "\x00", numbers("\x00\x78", "\x00\x00")}},
		{"", a[:15], []string{a[:15] + "\x00", numbers("\x00\x00", "\x00\x78")}},
		{a[:16], "", []string{a[:16], numbers("\x00\x80", "\x00\x00")}},
		{"", a[:16], []string{a[:16], numbers("\x00\x00", "\x00\x80")}},
		{a[:17], "", []string{a[:16], a[16:17] + zeros[:15], numbers("\x00\x88", "\x00\x00")}},
		{"", a[:17], []string{a[:16], a[16:17] + zeros[:15], numbers("\x00\x00", "\x00\x88")}},
		{a[:31], b[:1], []string{a[:16], a[16:31] + "\x00", b[:1] + zeros[:15], numbers("\x00\xf8", "\x00\x08")}},
		{a[:1], b[:31], []string{a[:1] + zeros[:15], b[:16], b[16:31] + "\x00", numbers("\x00\x08", "\x00\xf8")}},
		{a[:32], b[:16], []string{a[:16], a[16:32], b[:16], numbers("\x01\x00", "\x00\x80")}},
		{a[:16], b[:32], []string{a[:16], b[:16], b[16:32], numbers("\x00\x80", "\x01\x00")}},
		{a, b[:32], []string{a[:16], a[16:32], a[32:] + zeros[:15], b[:16], b[16:32], numbers("\x01\x08", "\x01\x00")}},
		{a[:32], b, []string{a[:16], a[16:32], b[:16], b[16:32], b[32:] + zeros[:15], numbers("\x01\x00", "\x01\x08")}},
		{a, b, []string{a[:16], a[16:32], a[32:] + zeros[:15], b[:16], b[16:32], b[32:] + zeros[:15], numbers("\x01\x08", "\x01\x08")}},
	} {
		if l := ghash.Blocks(x.head, x.text); !slices.Equal(l, x.blocks) {
			t.Errorf("Blocks(%x, %x) = %x, want %x", x.head, x.text, l, x.blocks)
		}
	}
}

// The last block's numbers have more bytes than two, if the texts are long.
func TestLastBlockOfLongTexts(t *testing.T) {
	for _, x := range []struct {
		head, text int
		last       string
	}{
		{8191, 8192, "000000000000fff8 0000000000010000"},
		{8192, 8191, "0000000000010000 000000000000fff8"},
		{0x12345, 0x23456, "0000000000091a28 000000000011a2b0"},
		{1<<21 - 1, 1 << 21, "0000000000fffff8 0000000001000000"},
		{1<<21 + 1, 3, "0000000001000008 0000000000000018"},
	} {
		l := ghash.Blocks(of(x.head), of(x.text))
		want, many := unhex(t, x.last), (x.head+15)/16+(x.text+15)/16+1
		if last := l[len(l)-1]; last != want || len(l) != many {
			t.Errorf("of %v and %v bytes: %v blocks, the last %x; want %v, %x", x.head, x.text, len(l), last, many, want)
		}
	}
}

// P7.1: Sum

// Sums that are printed with GCM's examples, of keys of 16 and of 32 bytes.
func TestSumIsThePublishedOne(t *testing.T) {
	const (
		text = "42831ec2217774244b7221b784d0d49ce3aa212f2c02a4e035c17e2329aca12e21d514b25466931c7d8f6a5aac84aa051ba30b396a0aac973d58e091473f5985"
		long = "522dc1f099567d07f47f37a32a84427d643a8cdcbfe5c0c97598a2bd2555d1aa8cb08e48590dbb3da7b08b1056828838c5f61e6393ba7a0abcc9f662898015ad"
		head = "feedfacedeadbeeffeedfacedeadbeefabaddad2"
	)
	for _, x := range []struct{ h, head, text, sum string }{
		{"66e94bd4ef8a2c3b884cfa59ca342b2e", "", "", "00000000000000000000000000000000"},
		{"66e94bd4ef8a2c3b884cfa59ca342b2e", "", "0388dace60b6a392f328c2b971b2fe78", "f38cbb1ad69223dcc3457ae5b6b0f885"},
		{"b83b533708bf535d0aa6e52980d53b78", "", text, "7f1b32b81b820d02614f8895ac1d4eac"},
		{"b83b533708bf535d0aa6e52980d53b78", head, text[:120], "698e57f70e6ecc7fd9463b7260a9ae5f"},
		{"dc95c078a2408989ad48a21492842087", "", "cea7403d4d606b6e074ec5d3baf39d18", "83de425c5edc5d498f382c441041ca92"},
		{"acbef20579b4b8ebce889bac8732dad7", "", long, "4db870d37cb75fcb46097c36230d1612"},
		{"acbef20579b4b8ebce889bac8732dad7", head, long[:120], "8bd0c4d8aacd391e67cca447e8c38f65"},
	} {
		h, head, text, want := unhex(t, x.h), unhex(t, x.head), unhex(t, x.text), unhex(t, x.sum)
		if sum, e := ghash.Sum(h, head, text); sum != want || e != api.OK {
			t.Errorf("Sum(%x, %x, %x) = %x, %v, want %x", h, head, text, sum, e, want)
		}
	}
}

func TestSumOfFewBits(t *testing.T) {
	for _, x := range []struct{ h, head, text, sum string }{
		// By the block 1, it is the blocks, xor-ed.
		{one, "", "", zero},
		{one, "a", "", "a\x00\x00\x00\x00\x00\x00\x08" + zero[:8]},
		{one, "", "a", "a" + zero[:14] + "\x08"},
		{one, "ab", "a", "\x00b\x00\x00\x00\x00\x00\x10\x00\x00\x00\x00\x00\x00\x00\x08"},
		// By x, each block is one bit further down for each that is behind it, and one more: the head's first bit is at 3, the text's at 2, and the numbers' two 1 bits, 60 and 124, at 61 and 125.
		{bit(1), "\x80", "\x80", bits(3, 2, 61, 125)},
		// By x to the power of 64: x^192 of the head's bit, x^128 of the text's, x^124 of the head's number, x^188 of the text's.
		{bit(64), "\x80", "\x80", bits(71, 66, 65, 64, 7, 2, 1, 0, 124, 67, 62, 61, 60)},
		// By 0, nothing is left.
		{zero, "", "", zero},
		{zero, "a", "", zero},
		{zero, of(33), of(33), zero},
		// Of no head and no text, 0, by whatever it is.
		{of(16), "", "", zero},
		{bit(127), "", "", zero},
		{strings.Repeat("\xff", 16), "", "", zero},
	} {
		if sum, e := ghash.Sum(x.h, x.head, x.text); sum != x.sum || e != api.OK {
			t.Errorf("Sum(%x, %x, %x) = %x, %v, want %x", x.h, x.head, x.text, sum, e, x.sum)
		}
	}
}

func TestSumByOtherSizes(t *testing.T) {
	texts := []string{"", "a", zero, of(16), of(33)}
	for many := range 100 {
		for _, head := range texts {
			for _, text := range texts {
				sum, e := ghash.Sum(of(many), head, text)
				if many == 16 {
					if e != api.OK || len(sum) != 16 {
						t.Errorf("Sum by 16 bytes = %x, %v", sum, e)
					}
				} else if e != api.ErrSize || sum != "" {
					t.Errorf("Sum by %v bytes = %x, %v, want ErrSize", many, sum, e)
				}
			}
		}
	}
}

// R1: no call keeps anything: the blocks that are answered are nobody else's.
func TestBlocksAreNobodyElses(t *testing.T) {
	first := ghash.Blocks(of(33), of(17))
	second := ghash.Blocks(of(33), of(17))
	want := slices.Clone(second)
	clear(first)
	if !slices.Equal(second, want) {
		t.Errorf("two answers share their blocks: %x", second)
	}
	if again := ghash.Blocks(of(33), of(17)); !slices.Equal(again, want) {
		t.Errorf("Blocks = %x, and then %x", want, again)
	}
}
