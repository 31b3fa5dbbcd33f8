package field_test

import (
	"encoding/hex"
	"math"
	"slices"
	"testing"

	"saltus/field"
)

// P5.1

func TestMul(t *testing.T) {
	for _, x := range []struct{ a, b, product byte }{
		{87, 131, 193},
		{131, 87, 193},
		{0x57, 0x13, 0xfe},
		{0x57, 0, 0},
		{0x57, 1, 0x57},
		{0x57, 2, 0xae},
		{0x57, 4, 0x47},
		{0x57, 8, 0x8e},
		{0x57, 0x10, 0x07},
		{0, 0, 0},
		{0, 1, 0},
		{0, 255, 0},
		{255, 0, 0},
		{1, 1, 1},
		{1, 255, 255},
		{255, 1, 255},
		{2, 127, 254},
		{2, 128, 0x1b},
		{3, 128, 0x9b},
		{0x53, 0xca, 1},
		{128, 128, 0x9a},
		{255, 255, 0x13},
	} {
		if product := field.Mul(x.a, x.b); product != x.product {
			t.Errorf("Mul(%#x, %#x) = %#x, want %#x", x.a, x.b, product, x.product)
		}
	}
}

func TestInv(t *testing.T) {
	for _, x := range []struct{ a, inverse byte }{
		{0, 0},
		{1, 1},
		{2, 0x8d},
		{0x8d, 2},
		{3, 0xf6},
		{0xf6, 3},
		{0x53, 0xca},
		{0x95, 0x8a},
		{255, 0x1c},
	} {
		if inverse := field.Inv(x.a); inverse != x.inverse {
			t.Errorf("Inv(%#x) = %#x, want %#x", x.a, inverse, x.inverse)
		}
	}
}

func TestPow(t *testing.T) {
	for _, x := range []struct {
		a     byte
		n     int
		power byte
	}{
		{0, 0, 1},
		{0, -1, 1},
		{0, math.MinInt, 1},
		{0, 1, 0},
		{0, 2, 0},
		{0, 254, 0},
		{0, 255, 0},
		{0, 256, 0},
		{0, math.MaxInt, 0},
		{1, 0, 1},
		{1, -7, 1},
		{1, 1, 1},
		{1, math.MaxInt, 1},
		{2, 0, 1},
		{2, -1, 1},
		{2, -255, 1},
		{2, math.MinInt, 1},
		{2, math.MinInt + 1, 1},
		{2, 1, 2},
		{2, 7, 128},
		{2, 8, 0x1b},
		{2, 9, 0x36},
		{2, 13, 0x4d},
		{2, 14, 0x9a},
		{2, 50, 0x8d},
		{2, 51, 1},
		{2, 254, 0x8d},
		{2, 255, 1},
		{2, 256, 2},
		{3, 254, 0xf6},
		{3, 255, 1},
		{3, 256, 3},
		{255, 2, 0x13},
		{255, 254, 0x1c},
		{255, 255, 1},
		{255, 256, 255},
		{3, 255 << 32, 1},
		{3, 255<<32 + 1, 3},
		{3, 255<<32 - 1, 0xf6},
		{3, 1 << 32, 3},
		{3, 1 << 56, 3},
		{3, 1<<56 - 1, 1},
		{3, 1<<56 - 2, 0xf6},
		// 2^63 - 1 leaves 127, divided by 255.
		{3, math.MaxInt, 0xa0},
		{3, math.MaxInt - 127, 1},
		{3, math.MaxInt - 126, 3},
		{3, math.MaxInt - 128, 0xf6},
	} {
		if power := field.Pow(x.a, x.n); power != x.power {
			t.Errorf("Pow(%#x, %v) = %#x, want %#x", x.a, x.n, power, x.power)
		}
	}
}

// published are the boxes of the bytes 0 to 255, as FIPS 197 prints them.
const published = "637c777bf26b6fc53001672bfed7ab76" +
	"ca82c97dfa5947f0add4a2af9ca472c0" +
	"b7fd9326363ff7cc34a5e5f171d83115" +
	"04c723c31896059a071280e2eb27b275" +
	"09832c1a1b6e5aa0523bd6b329e32f84" +
	"53d100ed20fcb15b6acbbe394a4c58cf" +
	"d0efaafb434d338545f9027f503c9fa8" +
	"51a3408f929d38f5bcb6da2110fff3d2" +
	"cd0c13ec5f974417c4a77e3d645d1973" +
	"60814fdc222a908846eeb814de5e0bdb" +
	"e0323a0a4906245cc2d3ac629195e479" +
	"e7c8376d8dd54ea96c56f4ea657aae08" +
	"ba78252e1ca6b4c6e8dd741f4bbd8b8a" +
	"703eb5664803f60e613557b986c11d9e" +
	"e1f8981169d98e949b1e87e9ce5528df" +
	"8ca1890dbfe6426841992d0fb054bb16"

func TestBoxesAreThePublishedOnes(t *testing.T) {
	want, err := hex.DecodeString(published)
	if err != nil {
		t.Fatal(err)
	}
	if boxes := field.Boxes(); !slices.Equal(boxes, want) {
		t.Errorf("Boxes() = %x, want %x", boxes, want)
	}
	for i, box := range want {
		if b := field.Box(byte(i)); b != box {
			t.Errorf("Box(%#x) = %#x, want %#x", i, b, box)
		}
	}
}

// R1: no call keeps the boxes: those that are answered are nobody else's.
func TestBoxesAreNobodyElses(t *testing.T) {
	first, second := field.Boxes(), field.Boxes()
	want := slices.Clone(second)
	clear(first)
	if !slices.Equal(second, want) {
		t.Errorf("two answers share their boxes: %x", second)
	}
	if again := field.Boxes(); !slices.Equal(again, want) {
		t.Errorf("Boxes() = %x, and then %x", want, again)
	}
}
