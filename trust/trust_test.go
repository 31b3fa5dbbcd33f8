package trust_test

import (
	"encoding/hex"
	"math"
	"strconv"
	"strings"
	"testing"

	"saltus/api"
	"saltus/trust"
)

// of is a text of so many bytes, whose pieces are not alike.
func of(many int) string {
	b := make([]byte, many)
	for i := range b {
		b[i] = byte(i*7 + i>>8*31 + i>>16*5 + 3)
	}
	return string(b)
}

// filled is a text of one byte, so often.
func filled(b byte, many int) string { return strings.Repeat(string([]byte{b}), many) }

// longKey is a slot's key of 32 bytes, and its first 16 bytes are another one's.
const longKey = "a key for slots, of 32 bytes ..."

// The sizes and numbers that are edges.
var (
	keySizes  = []int{0, 1, 15, 16, 17, 24, 31, 32, 33, 48, 63, 64, 65, 128, 1 << 16}
	nameSizes = []int{0, 1, 4095, 4096, 4097, 4098, 8192, 1 << 16, 1<<16 + 1}
	boots     = []uint64{0, 1, 2, 1<<31 - 1, 1 << 31, 1<<32 - 2, 1<<32 - 1, 1 << 32, 1<<32 + 1, 1 << 63, math.MaxUint64}
	counts    = []uint64{0, 1, 2, 255, 256, 1<<32 - 1, 1 << 32, 1 << 63, math.MaxUint64 - 1, math.MaxUint64}
)

// fits tells whether a key may have so many bytes.
func fits(size int) bool { return size == 16 || size == 32 }

// told is a slot in words, its key by its size alone.
func told(slot api.Trust) string {
	return "a slot of Count " + strconv.FormatUint(slot.Count, 10) + ", Boots " + strconv.FormatUint(slot.Boots, 10) + ", a key of " + strconv.Itoa(len(slot.Key)) + " bytes"
}

// numbers are the edges of what may be committed, by a number that was; those below 0 and above the greatest are told modulo 2^64.
func numbers(count uint64) []uint64 {
	return []uint64{0, 1, count - 2, count - 1, count, count + 1, count + 2, count ^ 1<<63, count ^ 1<<32, math.MaxUint64 - 1, math.MaxUint64}
}

// The chapter's example.
func TestExample(t *testing.T) {
	got, e := trust.New("a key, 16 bytes.")
	if got.Count != 0 || got.Boots != 0 || got.Key != "a key, 16 bytes." || e != api.OK {
		t.Errorf("New = %v, %v", got, e)
	}
}

// P10.1

func TestNew(t *testing.T) {
	for size := range 200 {
		checkNew(t, size)
	}
	for _, size := range append(keySizes, 1<<16+16, 1<<16+32, 1<<20) {
		checkNew(t, size)
	}
}

// checkNew holds what New tells of keys of a size, whatever bytes they have.
func checkNew(t *testing.T, size int) {
	t.Helper()
	for _, key := range []string{of(size), filled(0, size), filled(0xff, size)} {
		want, why := api.Trust{Key: key}, api.OK
		if !fits(size) {
			want, why = api.Trust{}, api.ErrSize
		}
		if got, e := trust.New(key); got != want || e != why {
			t.Errorf("New of a key of %v bytes = %v, %v, want %v, %v", size, got, e, want, why)
		}
	}
}

// slots are those at all edges at once, each with whether it may be.
func slots(see func(slot api.Trust, may bool)) {
	for _, size := range keySizes {
		for _, begun := range boots {
			for _, count := range counts {
				see(api.Trust{Count: count, Boots: begun, Key: of(size)}, fits(size) && begun <= 1<<32-1)
			}
		}
	}
}

func TestBoot(t *testing.T) {
	slots(func(slot api.Trust, may bool) {
		want, why := slot, api.OK
		want.Boots++
		if slot.Boots == 1<<32-1 {
			want, why = api.Trust{}, api.ErrRange
		}
		if !may {
			want, why = api.Trust{}, api.ErrArg
		}
		if got, e := trust.Boot(slot); got != want || e != why {
			t.Errorf("Boot(%v) = %v, %v, want %v, %v", told(slot), got, e, want, why)
		}
	})
}

func TestCommit(t *testing.T) {
	slots(func(slot api.Trust, may bool) {
		for _, n := range numbers(slot.Count) {
			want, why := slot, api.OK
			want.Count = n
			if n <= slot.Count {
				want, why = api.Trust{}, api.ErrRange
			}
			if !may {
				want, why = api.Trust{}, api.ErrArg
			}
			if got, e := trust.Commit(slot, n); got != want || e != why {
				t.Errorf("Commit(%v, %v) = %v, %v, want %v, %v", told(slot), n, got, e, want, why)
			}
		}
	})
}

// P10.2

// Which error comes first, of each slot and each size of a name; what the key is, where there is one, is held elsewhere.
func TestDeriveOfSlotsAndNamesAtEdges(t *testing.T) {
	for _, size := range nameSizes {
		name := of(size)
		slots(func(slot api.Trust, may bool) {
			if slot.Count != 0 && slot.Count != math.MaxUint64 {
				return
			}
			why, many := api.OK, len(slot.Key)
			if size > 4096 {
				why, many = api.ErrSize, 0
			}
			if !may {
				why, many = api.ErrArg, 0
			}
			if got, e := trust.Derive(slot, name); len(got) != many || e != why {
				t.Errorf("Derive(%v, %v bytes) = %x, %v, want %v bytes, %v", told(slot), size, got, e, many, why)
			}
		})
	}
}

// Keys that were told beside the program, by another one.
func TestDerive(t *testing.T) {
	for _, x := range []struct{ key, name, want string }{
		{longKey[:16], "", "40d14cb88a5ad32b2469b2ef9de1987e"},
		{longKey[:16], "\x00", "0d78e8155714b6a4260c1c6d89b12325"},
		{longKey[:16], "label", "b4fd4994f960645d063d61253329b0ef"},
		{longKey[:16], "labels", "b7436449c564104004a1a0d28f16b791"},
		{longKey[:16], "\xff\xfe\x80", "33d516c3401fdaa43f673273db68fe30"},
		{longKey[:16], of(4096), "242a0d10891156f1ff7acc60d731de40"},
		{longKey, "", "9cfa1a5664862a17536575e03e969e02e43bf6031533bf936d355eacc1202dd2"},
		{longKey, "\x00", "31a51a169e7e0f3030a27c6d82fbcb77c5fc9fefe02685af0df24b543a91b6f3"},
		{longKey, "label", "2b43a2481139927967b63f72bbad1d360ec1faa3db78d52ab67d5ee399161638"},
		{longKey, "labels", "698b1bb1b4c0540d8f41a647573afa36c16edc51961160d445c6b68245a78287"},
		{longKey, "\xff\xfe\x80", "d98a5fd2e224d067688c4c720313f7695d83e4ae63528048ee66b566d873f3a5"},
		{longKey, of(4096), "18bbc50c89b8879300ea71a48c5406c9423e91cb5cf80429abb679676eb5ab6e"},
	} {
		got, e := trust.Derive(api.Trust{Key: x.key}, x.name)
		if hex.EncodeToString([]byte(got)) != x.want || e != api.OK {
			t.Errorf("Derive of %.20q by %q = %x, %v, want %v", x.name, x.key, got, e, x.want)
		}
	}
}

// Numbers of which the tags are printed, or were told beside the program, by another one.
func TestWord(t *testing.T) {
	for _, x := range []struct {
		key, text string
		want      uint64
	}{
		{"", "", 0xecd914089a6713b6},
		{"", "abc", 0x80ef052c15db7afd},
		{"abc", "", 0xa8296750776063e2},
		{"Jefe", "what do ya want for nothing?", 0x4e7560bf46c1dc5b},
		{filled(11, 20), "Hi There", 0x5338dbd8614c34b0},
		{filled(0xaa, 131), "Test Using Larger Than Block-Size Key - Hash Key First", 0x7fb6e01e5931e460},
	} {
		if got := trust.Word(x.key, x.text); got != x.want {
			t.Errorf("Word(%.20q, %q) = %x, want %x", x.key, x.text, got, x.want)
		}
	}
}

// The first byte is the lowest, and the last one the highest: of tags whose first byte is the greatest, or the least, and of some whose last one, of the 8, is.
func TestWordsLowestByteIsFirst(t *testing.T) {
	for _, x := range []struct {
		text string
		want uint64
	}{
		{"69", 0x4605d837ee6f57ff},
		{"10", 0x0c398e5124c2a600},
		{"356", 0xffcaf69bbc68f43a},
		{"338", 0x004e53843bc73757},
	} {
		if got := trust.Word("k", x.text); got != x.want {
			t.Errorf("Word(k, %v) = %x, want %x", x.text, got, x.want)
		}
	}
}

// P10.3

// Numbers only grow, one at a time: Boots by 1, and then Count to what is committed; the key stays.
func TestNumbersGrowOneAtATime(t *testing.T) {
	for _, size := range []int{16, 32} {
		slot, e := trust.New(of(size))
		if e != api.OK {
			t.Fatal(e)
		}
		for i := range uint64(300) {
			want := api.Trust{Count: i * i, Boots: i + 1, Key: of(size)}
			if slot, e = trust.Boot(slot); slot != want || e != api.OK {
				t.Fatalf("begun %v times: %v, %v, want %v", i+1, slot, e, want)
			}
			want.Count = (i + 1) * (i + 1)
			if slot, e = trust.Commit(slot, want.Count); slot != want || e != api.OK {
				t.Fatalf("%v committed: %v, %v, want %v", want.Count, slot, e, want)
			}
		}
	}
}

// A number that was committed is not once more, nor is one that is less; the greatest one ends it, and so does the last time that a slot is begun.
func TestNoNumberComesBack(t *testing.T) {
	slot := api.Trust{Boots: 1<<32 - 3, Key: of(16)}
	var was []uint64
	for _, n := range []uint64{1, 2, 255, 256, 1 << 32, 1<<63 + 1, math.MaxUint64 - 1, math.MaxUint64} {
		var e api.Errno
		if slot, e = trust.Commit(slot, n); e != api.OK {
			t.Fatalf("Commit of %v: %v", n, e)
		}
		was = append(was, n-1, n)
		for _, old := range was {
			if got, e := trust.Commit(slot, old); got != (api.Trust{}) || e != api.ErrRange {
				t.Errorf("Commit of %v behind %v = %v, %v, want ErrRange", old, n, got, e)
			}
		}
	}
	for i := range 2 {
		var e api.Errno
		if slot, e = trust.Boot(slot); slot.Boots != 1<<32-2+uint64(i) || e != api.OK {
			t.Fatalf("Boot = %v, %v", slot, e)
		}
	}
	if got, e := trust.Boot(slot); got != (api.Trust{}) || e != api.ErrRange {
		t.Errorf("Boot of the last = %v, %v, want ErrRange", got, e)
	}
}

// Keys do not hang on the numbers: only a slot that may not be has none.
func TestKeysDoNotHangOnNumbers(t *testing.T) {
	for _, name := range []string{"", "label", of(4096)} {
		slots(func(slot api.Trust, may bool) {
			if !may {
				return
			}
			got, e := trust.Derive(slot, name)
			want, f := trust.Derive(api.Trust{Key: slot.Key}, name)
			if got != want || e != api.OK || f != api.OK {
				t.Errorf("Derive(%v, %.20q) = %x, %v, but of numbers 0 %x, %v", slot, name, got, e, want, f)
			}
		})
	}
}

// Names that begin with each other, or are bytes of each other, have keys that do not, and neither does a long slot's key begin as a short one's.
func TestKeysOfNamesLikeEachOther(t *testing.T) {
	names := []string{"", "\x00", "\x00\x00", "a", "aa", "a\x00", "\x00a", "A", "label", "label ", "labels", "\x05\x00label", "ä", "\xe4", "\xc3", of(4095), of(4096)}
	whose := map[string]string{}
	for _, size := range []int{16, 32} {
		for _, name := range names {
			key, e := trust.Derive(api.Trust{Key: longKey[:size]}, name)
			if len(key) != size || e != api.OK {
				t.Fatalf("Derive of %.20q = %x, %v", name, key, e)
			}
			who := strconv.Itoa(size) + name
			if other, is := whose[key[:8]]; is {
				t.Errorf("keys for %.20q and %.20q begin alike", who, other)
			}
			whose[key[:8]] = who
		}
	}
}

// A key's number, and a key, is the same each time.
func TestTheSameEachTime(t *testing.T) {
	for _, size := range keySizes {
		for _, text := range []string{"", "a", of(5000)} {
			if a, b := trust.Word(of(size), text), trust.Word(of(size), text); a != b {
				t.Errorf("%x, and then %x", a, b)
			}
		}
	}
	slot := api.Trust{Key: of(32)}
	a, _ := trust.Derive(slot, "a")
	trust.Boot(slot)
	trust.Commit(slot, 7)
	trust.Derive(slot, "b")
	if b, _ := trust.Derive(slot, "a"); a != b || slot != (api.Trust{Key: of(32)}) {
		t.Errorf("%x, and then %x, of %v", a, b, slot)
	}
}
