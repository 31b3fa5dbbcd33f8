package trust

import "testing"

// A number is read from as many bytes as there are, the lowest first.
func TestNumber(t *testing.T) {
	for _, x := range []struct {
		bytes string
		want  uint64
	}{
		{"", 0},
		{"\x00", 0},
		{"\xff", 255},
		{"\x01\x02\x03", 0x030201},
		{"\xff\x00\x00\x00\x00\x00\x00\x00", 255},
		{"\x00\x00\x00\x00\x00\x00\x00\xff", 255 << 56},
		{"\x01\x23\x45\x67\x89\xab\xcd\xef", 0xefcdab8967452301},
		{"\xff\xff\xff\xff\xff\xff\xff\xff", 1<<64 - 1},
	} {
		if got := number[uint64](x.bytes); got != x.want {
			t.Errorf("%q tells %x, want %x", x.bytes, got, x.want)
		}
		if got := number[uint32](x.bytes); got != uint32(x.want) {
			t.Errorf("%q tells %x of 32 bits, want %x", x.bytes, got, uint32(x.want))
		}
	}
}
