package seal_test

import (
	"encoding/hex"
	"math"
	"strconv"
	"strings"
	"testing"

	"saltus/api"
	"saltus/seal"
)

// of is a text of so many bytes, whose pieces are not alike.
func of(many int) string {
	b := make([]byte, many)
	for i := range b {
		b[i] = byte(i*7 + i>>8*31 + i>>16*5 + 3)
	}
	return string(b)
}

// filled is a text of one byte, so often.
func filled(b byte, many int) string { return strings.Repeat(string([]byte{b}), many) }

// turned is a text with one bit of it turned.
func turned(s string, bit int) string {
	b := []byte(s)
	b[bit/8] ^= 1 << (bit % 8)
	return string(b)
}

func unhex(t testing.TB, s string) string {
	t.Helper()
	b, err := hex.DecodeString(strings.ReplaceAll(s, " ", ""))
	if err != nil {
		t.Fatal(err)
	}
	return string(b)
}

// told is a sector in words, its key by its size alone.
func told(x sector) string {
	return "a key of " + strconv.Itoa(len(x.key)) + " bytes, kind " + strconv.Itoa(x.kind) + ", sector " + strconv.Itoa(x.at) + ", generation " + strconv.FormatUint(x.gen, 10) + ", logical " + strconv.FormatUint(x.logical, 10)
}

// The sizes and numbers that are edges.
var (
	places    = []int{math.MinInt, math.MinInt32, -64, -1, 0, 1, 62, 63, 64, 65, 256, 1 << 32, 1<<32 + 3, math.MaxInt}
	kinds     = []int{math.MinInt, math.MinInt32, -1, 0, 1, 2, 3, 4, 256, 1 << 32, 1<<32 + 1, math.MaxInt}
	numbers   = []uint64{0, 1, 255, 256, 1<<32 - 1, 1 << 32, 1<<63 - 1, 1 << 63, math.MaxUint64 - 1, math.MaxUint64}
	keySizes  = []int{0, 1, 15, 16, 17, 24, 31, 32, 33, 48, 64, 1 << 16}
	dataSizes = []int{0, 1, 15, 16, 17, 63, 64, 65, 66, 128, 4096, 4097, 1 << 16}
	textSizes = []int{0, 1, 7, 8, 9, 16, 23, 24, 25, 40, 87, 88, 89, 90, 128, 4096, 4112, 4113, 4120, 4121, 1 << 16}
)

// The chapter's example.
func TestExample(t *testing.T) {
	want := string([]byte{3, 0, 0, 0, 2, 1, 0, 0, 0, 0, 0, 0})
	if got, e := seal.Nonce(3, 258); got != want || e != api.OK {
		t.Errorf("Nonce(3, 258) = %x, %v, want %x", got, e, want)
	}
}

// P11.1

func TestNonceByHand(t *testing.T) {
	for _, x := range []struct {
		at   int
		gen  uint64
		want string
	}{
		{0, 0, "00000000 0000000000000000"},
		{0, 1, "00000000 0100000000000000"},
		{1, 0, "01000000 0000000000000000"},
		{63, 255, "3f000000 ff00000000000000"},
		{63, 256, "3f000000 0001000000000000"},
		{32, 1 << 32, "20000000 0000000001000000"},
		{0, 1 << 63, "00000000 0000000000000080"},
		{63, math.MaxUint64, "3f000000 ffffffffffffffff"},
		{17, 0x0123456789abcdef, "11000000 efcdab8967452301"},
	} {
		if got, e := seal.Nonce(x.at, x.gen); got != unhex(t, x.want) || e != api.OK {
			t.Errorf("Nonce(%v, %v) = %x, %v, want %v", x.at, x.gen, got, e, x.want)
		}
	}
	for _, at := range []int{math.MinInt, -1, 64, math.MaxInt} {
		for _, gen := range numbers {
			if got, e := seal.Nonce(at, gen); got != "" || e != api.ErrArg {
				t.Errorf("Nonce(%v, %v) = %x, %v, want ErrArg", at, gen, got, e)
			}
		}
	}
}

func TestNonceAtEdges(t *testing.T) {
	for _, gen := range numbers {
		for _, at := range places {
			checkNonce(t, at, gen)
		}
		for at := -100; at < 200; at++ {
			checkNonce(t, at, gen)
		}
	}
}

// printed are texts that were told beside the program, by another one, of keys of so many bytes of of.
var printed = []struct {
	key, kind, at int
	gen, logical  uint64
	data, text    string
}{
	{16, 0, 0, 0, 0, "", "0000000000000000 3edb6c82c4db3570e4a9abfac71f60bf"},
	{16, 0, 0, 0, 0, filled(0, 64), "0000000000000000 4c7586469133bd50e308c23079f54fb9933b72cb3b04e2fb6e6fc01e39ecb0d69cb7f331ee1d558704ce29bf19cd0e4b48e0df9a82888d03cad36eabb8b514ac 7e7681339ef36f9d6b22aed3d1b22e10"},
	{16, 0, 3, 258, 7, "some data", "0201000000000000 056f2f9496e5e7846a d4bb7dff5a2b9d752075e9326e03484c"},
	{16, 1, 63, 1 << 32, math.MaxUint64, of(64), "0000000001000000 aa71035d05a2304ea17ad80631425b0e8e48897cb5ccbfdcf9ea4986da406c74722af6bc26714237291749305310f1513ca867883b354292f69b030fd9414826 4971401db280ed51cbddd7e801c6e1f7"},
	{16, 2, 0, math.MaxUint64, 1 << 63, of(1), "ffffffffffffffff 6e 7412ba6d2cc32f1756bad3a049cdcf98"},
	{32, 0, 0, 0, 0, "", "0000000000000000 e37cfaae031c5cb3722ccec505da5325"},
	{32, 0, 3, 258, 7, "some data", "0201000000000000 cdedde3d722e2019b4 2aab87a8087d5b941d787cf2dfa5ffa9"},
	{32, 1, 63, 1<<32 + 1, 256, of(63), "0100000001000000 d538f830f11f421627fc0dccb8e9171162d2d7530a61ce619738f2b318b00c88757d5dd76cc47ec5e15b4ef76e5cdea9f15712692dec39740180d9727e5a25 a99ec2e6b8135ddae2a0c33e9a6bb9b7"},
	{32, 2, 1, 1 << 63, 255, of(16), "0000000000000080 8d3fc21c407a2549668b1bb5ebd023d4 8e10c3cb1f3e701e55b0ac026e8d388a"},
	{32, 2, 63, math.MaxUint64, math.MaxUint64, of(64), "ffffffffffffffff 87a860c547aac2dbce398e7095fc997f43ccfbdddc0ea38bb1e9905e0205ee6226a3b54727b773da7b521c54b667cc6f449a9bf064323180edbe753fb1def70c 4e6685dc0d8a39efa99b116c664875a0"},
}

// P11.1 and P11.2 of these.
func TestTextsAsPrinted(t *testing.T) {
	for _, x := range printed {
		key, want := of(x.key), unhex(t, x.text)
		if got, e := seal.Seal(key, x.kind, x.at, x.gen, x.logical, x.data); got != want || e != api.OK {
			t.Errorf("Seal(%v, %v, %v, %v, %v, %q) = %x, %v, want %x", x.key, x.kind, x.at, x.gen, x.logical, x.data, got, e, want)
		}
		if gen, data, e := seal.Open(key, x.kind, x.at, x.logical, want); gen != x.gen || data != x.data || e != api.OK {
			t.Errorf("Open(%v, %v, %v, %v, %x) = %v, %q, %v, want %v, %q", x.key, x.kind, x.at, x.logical, want, gen, data, e, x.gen, x.data)
		}
	}
}

// Which error comes first: all that may be wrong, each by itself and all together.
func TestSealAtEdges(t *testing.T) {
	for _, size := range keySizes {
		key := of(size)
		for _, many := range dataSizes {
			data := of(many)
			for _, at := range places {
				for _, kind := range kinds {
					checkSeal(t, sector{key, kind, at, 258, 7}, data)
				}
			}
		}
	}
}

func TestSealOfNumbersAtEdges(t *testing.T) {
	for _, gen := range numbers {
		for _, logical := range numbers {
			for kind := -1; kind < 4; kind++ {
				for _, many := range []int{0, 17, 65} {
					checkSeal(t, sector{of(16), kind, 63, gen, logical}, of(many))
					checkSeal(t, sector{of(32), kind, 0, gen, logical}, of(many))
					checkSeal(t, sector{of(24), kind, 64, gen, logical}, of(many))
				}
			}
		}
	}
}

// The errors' order by hand: two things wrong at once.
func TestSealOfTwoThingsWrong(t *testing.T) {
	for _, x := range []struct {
		what          string
		key, kind, at int
		many          int
		want          api.Errno
	}{
		{"a sector and a kind", 16, 3, 64, 0, api.ErrArg},
		{"a sector and a key", 15, 0, -1, 0, api.ErrArg},
		{"a sector and data", 16, 0, 64, 65, api.ErrArg},
		{"a kind and a key", 33, -1, 0, 0, api.ErrArg},
		{"a kind and data", 32, 3, 63, 65, api.ErrArg},
		{"a key and data", 24, 2, 63, 65, api.ErrSize},
		{"all", 0, math.MinInt, math.MinInt, 1 << 16, api.ErrArg},
		{"none", 32, 2, 63, 64, api.OK},
	} {
		s, e := seal.Seal(of(x.key), x.kind, x.at, 258, 7, of(x.many))
		if e != x.want || (s == "") != (e != api.OK) {
			t.Errorf("%v: Seal = %x, %v, want %v", x.what, s, e, x.want)
		}
	}
}

// P11.2

// Bytes that were never sealed: which error comes first, with all that may be wrong, each by itself and all together.
func TestOpenAtEdges(t *testing.T) {
	for _, size := range keySizes {
		key := of(size)
		for _, many := range textSizes {
			s := of(many)
			for _, at := range places {
				for _, kind := range kinds {
					checkOpen(t, sector{key: key, kind: kind, at: at, logical: 7}, s)
				}
			}
		}
	}
}

func TestOpenOfEachSize(t *testing.T) {
	for many := range 200 {
		for _, s := range []string{of(many), filled(0, many), filled(0xff, many)} {
			for _, size := range []int{16, 24, 32} {
				checkOpen(t, sector{key: of(size), kind: 1, at: 3, logical: 7}, s)
			}
		}
	}
}

func TestOpenOfTwoThingsWrong(t *testing.T) {
	right := worded(t, sector{of(16), 0, 3, 258, 7}, of(64))
	for _, x := range []struct {
		what          string
		key, kind, at int
		s             string
		want          api.Errno
	}{
		{"a sector and a kind", 16, 3, 64, right, api.ErrArg},
		{"a sector and a key", 15, 0, -1, right, api.ErrArg},
		{"a sector and a text too short", 16, 0, 64, right[:23], api.ErrArg},
		{"a sector and a text too long", 16, 0, 64, right + "\x00", api.ErrArg},
		{"a sector and a wrong text", 16, 0, 64, turned(right, 0), api.ErrArg},
		{"a kind and a key", 33, -1, 3, right, api.ErrArg},
		{"a kind and a text too short", 16, 3, 3, "", api.ErrArg},
		{"a kind and a text too long", 16, 3, 3, right + right, api.ErrArg},
		{"a kind and a wrong text", 16, -1, 3, turned(right, 703), api.ErrArg},
		{"a key and a text too short", 17, 0, 3, right[:7], api.ErrSize},
		{"a key and a text too long", 17, 0, 3, right + "\x00", api.ErrSize},
		{"a key and a wrong text", 31, 0, 3, turned(right, 64), api.ErrSize},
		{"all", 0, math.MaxInt, math.MaxInt, "", api.ErrArg},
	} {
		if gen, data, e := seal.Open(of(x.key), x.kind, x.at, 7, x.s); gen != 0 || data != "" || e != x.want {
			t.Errorf("%v: Open = %v, %x, %v, want %v", x.what, gen, data, e, x.want)
		}
	}
	if gen, data, e := seal.Open(of(16), 0, 3, 7, right); gen != 258 || data != of(64) || e != api.OK {
		t.Errorf("none: Open = %v, %x, %v", gen, data, e)
	}
}

// What the library seals by the chapter's words is refused where the promises refuse it.
func TestRefusedThoughSealedRight(t *testing.T) {
	for _, x := range []struct {
		what string
		of   sector
		many int
		want api.Errno
	}{
		{"sector -1", sector{of(16), 0, -1, 258, 7}, 9, api.ErrArg},
		{"sector 64", sector{of(16), 0, 64, 258, 7}, 9, api.ErrArg},
		{"sector 2^32 + 3", sector{of(16), 0, 1<<32 + 3, 258, 7}, 9, api.ErrArg},
		{"the greatest sector", sector{of(16), 0, math.MaxInt, 258, 7}, 9, api.ErrArg},
		{"the least sector", sector{of(16), 0, math.MinInt, 258, 7}, 9, api.ErrArg},
		{"kind -1", sector{of(32), -1, 3, 258, 7}, 9, api.ErrArg},
		{"kind 3", sector{of(32), 3, 3, 258, 7}, 9, api.ErrArg},
		{"the greatest kind", sector{of(32), math.MaxInt, 3, 258, 7}, 9, api.ErrArg},
		{"the least kind", sector{of(32), math.MinInt, 3, 258, 7}, 9, api.ErrArg},
		{"a key of 24 bytes", sector{of(24), 0, 3, 258, 7}, 9, api.ErrSize},
		{"65 bytes", sector{of(16), 0, 3, 258, 7}, 65, api.ErrAuth},
		{"128 bytes", sector{of(32), 1, 3, 258, 7}, 128, api.ErrAuth},
		{"4096 bytes", sector{of(32), 2, 3, 258, 7}, 4096, api.ErrAuth},
		{"65 bytes of kind 3", sector{of(16), 3, 3, 258, 7}, 65, api.ErrArg},
		{"65 bytes by a key of 24", sector{of(24), 0, 3, 258, 7}, 65, api.ErrSize},
	} {
		s := worded(t, x.of, of(x.many))
		if gen, data, e := seal.Open(x.of.key, x.of.kind, x.of.at, x.of.logical, s); gen != 0 || data != "" || e != x.want {
			t.Errorf("%v: Open = %v, %x, %v, want %v", x.what, gen, data, e, x.want)
		}
	}
}

// checkNotOpened asks that a text is told not to be one of a sector.
func checkNotOpened(t *testing.T, what string, x sector, s string) {
	t.Helper()
	if gen, data, e := seal.Open(x.key, x.kind, x.at, x.logical, s); gen != 0 || data != "" || e != api.ErrAuth {
		t.Errorf("%v: Open(%v, %x) = %v, %x, %v, want ErrAuth", what, told(x), s, gen, data, e)
	}
}

// sealedOf is a sector's text, and asks that it is opened.
func sealedOf(t *testing.T, x sector, data string) string {
	t.Helper()
	s, e := seal.Seal(x.key, x.kind, x.at, x.gen, x.logical, data)
	if e != api.OK {
		t.Fatalf("Seal(%v, %q): %v", told(x), data, e)
	}
	if gen, opened, e := seal.Open(x.key, x.kind, x.at, x.logical, s); gen != x.gen || opened != data || e != api.OK {
		t.Fatalf("Open of what was sealed of %v, %q = %v, %q, %v", told(x), data, gen, opened, e)
	}
	return s
}

// sectors are some that may be: each kind, both sizes of keys, the first and the last sector, numbers at edges.
func sectors() []sector {
	return []sector{
		{of(16), 0, 0, 0, 0},
		{of(32), 1, 3, 258, 7},
		{of(16), 2, 63, 1 << 32, math.MaxUint64},
		{filled(0, 32), 0, 63, math.MaxUint64, 1 << 63},
		{filled(0xff, 16), 1, 0, 1 << 63, 256},
		{filled(0, 16), 2, 1, 1, 0},
	}
}

// What was sealed is not opened where one thing is another one.
func TestAnotherSector(t *testing.T) {
	for _, is := range sectors() {
		for _, many := range []int{0, 1, 16, 64} {
			s := sealedOf(t, is, of(many))
			for kind := range 3 {
				if x := is; kind != is.kind {
					x.kind = kind
					checkNotOpened(t, "another kind", x, s)
				}
			}
			for at := range 64 {
				if x := is; at != is.at {
					x.at = at
					checkNotOpened(t, "another sector", x, s)
				}
			}
			for bit := range 64 {
				x := is
				x.logical ^= 1 << bit
				checkNotOpened(t, "another logical number", x, s)
			}
			for _, n := range append(numbers, is.logical+1, is.logical-1, is.gen) {
				if x := is; n != is.logical {
					x.logical = n
					checkNotOpened(t, "another logical number", x, s)
				}
			}
		}
	}
}

func TestAnotherKey(t *testing.T) {
	for _, is := range sectors() {
		for _, many := range []int{0, 33} {
			s := sealedOf(t, is, of(many))
			for bit := range 8 * len(is.key) {
				x := is
				x.key = turned(is.key, bit)
				checkNotOpened(t, "a key's bit turned", x, s)
			}
			x := is
			x.key = (is.key + is.key)[:48-len(is.key)]
			checkNotOpened(t, "a key of the other size", x, s)
		}
	}
}

// What two sectors' numbers tell may not be told as another one's.
func TestThingsChangedForOneAnother(t *testing.T) {
	is := sector{of(16), 1, 2, 0, 0}
	s := sealedOf(t, is, "a")
	for _, x := range []sector{
		{of(16), 2, 1, 0, 0},
		{of(16), 0, 2, 0, 1},
		{of(16), 1, 0, 0, 2},
		{of(16), 1, 2, 0, 1},
	} {
		checkNotOpened(t, "changed for one another", x, s)
	}
	checkNotOpened(t, "another one's generation", is, sealedOf(t, sector{of(16), 1, 2, 1, 0}, "a")[:8]+s[8:])
	checkNotOpened(t, "another one's data", is, s[:8]+sealedOf(t, sector{of(16), 1, 2, 1, 0}, "a")[8:])
	checkNotOpened(t, "another one's tag", is, s[:9]+sealedOf(t, is, "b")[9:])
}

// The library seals here what is nearly told by the chapter's words.
func TestSealedOtherwise(t *testing.T) {
	const key, data = "a key, 16 bytes.", "some data"
	x := sector{key, 1, 3, 258, 7}
	nonce, head := nonced(3, 258), little(1, 7, 9)
	if s := sealedOf(t, x, data); s != little(258)+librarySealed(t, key, nonce, head, data) {
		t.Fatalf("Seal = %x", s)
	}
	for _, y := range []struct{ what, nonce, head string }{
		{"the sector's number, the highest byte first", "\x00\x00\x00\x03" + little(258), head},
		{"the generation, the highest byte first", "\x03\x00\x00\x00\x00\x00\x00\x00\x00\x00\x01\x02", head},
		{"the generation ahead of the sector", little(258) + "\x03\x00\x00\x00", head},
		{"no sector", "\x00\x00\x00\x00" + little(258), head},
		{"no generation", nonced(3, 0), head},
		{"the logical number ahead of the kind", nonce, little(7, 1, 9)},
		{"how many bytes, ahead", nonce, little(9, 1, 7)},
		{"no kind", nonce, little(7, 9)},
		{"no logical number", nonce, little(1, 9)},
		{"not how many bytes", nonce, little(1, 7)},
		{"how many bytes, 16 more", nonce, little(1, 7, 25)},
		{"how many bytes, 24 more", nonce, little(1, 7, 33)},
		{"the sector's number in the head", nonce, little(1, 3, 7, 9)},
		{"the generation in the head", nonce, little(1, 258, 7, 9)},
		{"no head", nonce, ""},
	} {
		checkNotOpened(t, y.what, x, little(258)+librarySealed(t, key, y.nonce, y.head, data))
	}
	sealed := librarySealed(t, key, nonce, head, data)
	checkNotOpened(t, "the generation told the highest byte first", x, "\x00\x00\x00\x00\x00\x00\x01\x02"+sealed)
	checkNotOpened(t, "the generation behind it", x, sealed+little(258))
	checkNotOpened(t, "the tag ahead of the data", x, little(258)+sealed[9:]+sealed[:9])
}

// No bit of a text, its generation's or its data's or its tag's, may be another one.
func TestEachBitTurned(t *testing.T) {
	for _, is := range sectors() {
		for _, many := range []int{0, 1, 15, 16, 17, 63, 64} {
			s := sealedOf(t, is, of(many))
			for bit := range 8 * len(s) {
				checkNotOpened(t, "a bit turned", is, turned(s, bit))
			}
		}
	}
}

func TestTwoBitsTurned(t *testing.T) {
	is := sector{of(32), 2, 5, 1<<32 + 9, 12}
	s := sealedOf(t, is, "a")
	for i := range 8 * len(s) {
		for j := 0; j < i; j += 3 {
			checkNotOpened(t, "two bits turned", is, turned(turned(s, i), j))
		}
	}
}

// A text that is cut, at its end or at its beginning, or has bytes behind it or ahead of it, is not opened.
func TestTextsCut(t *testing.T) {
	for _, is := range sectors() {
		for _, many := range []int{0, 1, 17, 63, 64} {
			s := sealedOf(t, is, of(many))
			for size := range len(s) {
				checkNotOpened(t, "cut at its end", is, s[:size])
				checkNotOpened(t, "cut at its beginning", is, s[len(s)-size:])
				checkNotOpened(t, "cut in the midst", is, s[:size]+s[size+1:])
			}
			for _, b := range []byte{0, 1, 0x80, 0xff} {
				for more := 1; more < 70; more++ {
					checkNotOpened(t, "bytes behind it", is, s+filled(b, more))
				}
				checkNotOpened(t, "a byte ahead of it", is, filled(b, 1)+s)
				checkNotOpened(t, "a byte behind the generation", is, s[:8]+filled(b, 1)+s[8:])
				checkNotOpened(t, "a byte ahead of the tag", is, s[:8+many]+filled(b, 1)+s[8+many:])
			}
			checkNotOpened(t, "twice", is, s+s)
		}
	}
}

// P11.3

// What is sealed is opened, of all things at edges at once; checkSeal asks that, and that a text is 24 bytes longer than the data.
func TestSealedIsOpened(t *testing.T) {
	for _, size := range []int{16, 32} {
		for kind := range 3 {
			for _, at := range []int{0, 63} {
				for _, many := range []int{0, 1, 15, 16, 17, 63, 64} {
					for i, gen := range numbers {
						checkSeal(t, sector{of(size), kind, at, gen, numbers[(i+many)%len(numbers)]}, filled(0xff, many))
					}
				}
			}
		}
	}
	for _, data := range []string{"\x00", "\xff\xfe\xfd", "\xc3", "\xe4\xb8", "ä\x80ö", "\xed\xa0\x80", "\n\r\t\"\\"} {
		checkSeal(t, sector{of(16), 0, 3, 258, 7}, data)
		checkSeal(t, sector{of(32), 1, 3, 258, 7}, data)
	}
}

// No two sectors, or generations, have one nonce.
func TestNoncesAreNotAlike(t *testing.T) {
	gens := map[uint64]bool{}
	for n := range uint64(600) {
		gens[n], gens[-n], gens[n<<32], gens[n<<32+n], gens[n<<48] = true, true, true, true, true
	}
	for bit := range 64 {
		for _, n := range []uint64{1 << bit, 1<<bit - 1, 1<<bit + 1, ^uint64(1 << bit)} {
			gens[n] = true
		}
	}
	whose := map[string]bool{}
	for gen := range gens {
		for at := range 64 {
			s, e := seal.Nonce(at, gen)
			if len(s) != 12 || e != api.OK || whose[s] {
				t.Fatalf("Nonce(%v, %v) = %x, %v, which is another one's, too, or none", at, gen, s, e)
			}
			whose[s] = true
		}
	}
	if len(whose) != 64*len(gens) {
		t.Errorf("%v nonces of %v generations", len(whose), len(gens))
	}
}

// Texts are sealed with the nonce that Nonce tells, and begin with the generation's bytes that it ends with.
func TestTextsAreSealedWithTheirNonces(t *testing.T) {
	for _, x := range sectors() {
		nonce, e := seal.Nonce(x.at, x.gen)
		if e != api.OK {
			t.Fatal(e)
		}
		s := sealedOf(t, x, "some data")
		if want := nonce[4:] + librarySealed(t, x.key, nonce, little(uint64(x.kind), x.logical, 9), "some data"); s != want {
			t.Errorf("Seal(%v) = %x, want %x", told(x), s, want)
		}
	}
}

// R1: no call keeps anything: what others are asked between two of the same changes nothing.
func TestNothingIsKept(t *testing.T) {
	ask := func() [3]string {
		nonce, _ := seal.Nonce(3, 258)
		s, _ := seal.Seal(of(16), 0, 3, 258, 7, of(37))
		gen, data, _ := seal.Open(of(16), 0, 3, 7, s)
		return [3]string{nonce, s, strconv.FormatUint(gen, 10) + data}
	}
	want := ask()
	for i := range 80 {
		seal.Nonce(i, uint64(i))
		seal.Seal(of(32), i%4, i, uint64(i), 9, of(i))
		seal.Open(of(16), 0, 3, 7, of(i))
		seal.Open(of(16), 0, 3, 8, want[1])
		if now := ask(); now != want {
			t.Fatalf("%x, and then %x", want, now)
		}
	}
}
