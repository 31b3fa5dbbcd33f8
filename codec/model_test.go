package codec_test

import (
	"cmp"
	"encoding/binary"
	"math/rand"
	"slices"
	"strings"
	"testing"

	"saltus/api"
	"saltus/codec"
)

// The tests here hold Split against what the chapter says of it, told in another way: by the library's numbers, and of bytes that grow less from the front.

// told are the fields of kinds that may be, and where they end, or where one is not.
func told(s, kinds string) ([]api.Field, int, api.Errno) {
	var l []api.Field
	rest := s
	for _, kind := range kinds {
		f, size := front(rest, kind)
		if size == 0 {
			return nil, len(s) - len(rest), api.ErrSyntax
		}
		l, rest = append(l, f), rest[size:]
	}
	if rest != "" {
		return nil, len(s) - len(rest), api.ErrSyntax
	}
	return l, 0, api.OK
}

// front is the field at the front, and how many bytes it has: 0, if it is not there.
func front(s string, kind rune) (api.Field, int) {
	if kind == 'n' {
		if len(s) < 8 {
			return api.Field{}, 0
		}
		return num(binary.LittleEndian.Uint64([]byte(s))), 8
	}
	if len(s) < 2 {
		return api.Field{}, 0
	}
	end := 2 + int(binary.LittleEndian.Uint16([]byte(s)))
	if end > 2+4096 || end > len(s) {
		return api.Field{}, 0
	}
	return text(s[2:end]), end
}

// checkSplit holds Split of kinds that may be against the model; and P2.3: what is split, joined, is those bytes.
func checkSplit(t *testing.T, s, kinds string) {
	t.Helper()
	l, at, e := codec.Split(s, kinds)
	want, place, why := told(s, kinds)
	if !slices.Equal(l, want) || at != place || e != why {
		t.Fatalf("Split(%.60q, %q) = %.60v, %v, %v, want %.60v, %v, %v", s, kinds, l, at, e, want, place, why)
	}
	if e != api.OK {
		return
	}
	if again, e := codec.Join(l); again != s || e != api.OK {
		t.Fatalf("Join(%.60v) = %.60q, %v, want %.60q", l, again, e, s)
	}
}

// words has f see each text of not more than so many of some bytes.
func words(bytes string, most int, f func(string)) {
	f("")
	if most == 0 {
		return
	}
	for i := range len(bytes) {
		words(bytes, most-1, func(s string) { f(bytes[i:i+1] + s) })
	}
}

// P2.2, of short bytes and all kinds that they could have, and of one more.
func TestSplitOfEachShortText(t *testing.T) {
	words("nt", 4, func(kinds string) {
		words("\x00\x01\x02a", 6, func(s string) { checkSplit(t, s, kinds) })
		words("\x00\x02", 10, func(s string) { checkSplit(t, s, kinds) })
	})
}

// P2.2, of each length that can be told, with just as many bytes, one less and one more.
func TestSplitOfEachLength(t *testing.T) {
	bytes := of(1 << 16)
	for many := range 1 << 16 {
		head := string(binary.LittleEndian.AppendUint16(nil, uint16(many)))
		checkSplit(t, head+bytes[:many], "t")
		checkSplit(t, head+bytes[:many+1], "t")
		if many > 0 {
			checkSplit(t, head+bytes[:many-1], "t")
		}
	}
}

// P2.3: what is joined is split as it was; and cut anywhere, it is not.
func TestSplitOfWhatIsJoined(t *testing.T) {
	var some []api.Field
	for _, n := range []uint64{0, 1, 255, 256, 1<<32 - 1, 1 << 63, top} {
		some = append(some, num(n))
	}
	for _, many := range []int{0, 1, 2, 8, 255, 256} {
		some = append(some, text(of(many)))
	}
	for _, a := range some {
		checkJoined(t, []api.Field{a})
		for _, b := range some {
			checkJoined(t, []api.Field{a, b})
			for _, c := range some[4:9] {
				checkJoined(t, []api.Field{a, b, c})
			}
		}
	}
	checkJoined(t, []api.Field{num(7), text(of(4096)), text(""), text(of(4095)), num(top)})
}

func checkJoined(t *testing.T, l []api.Field) {
	t.Helper()
	s, e := codec.Join(l)
	if e != api.OK {
		t.Fatalf("Join(%.60v): %v", l, e)
	}
	kinds := kindsOf(l)
	if again, at, e := codec.Split(s, kinds); !slices.Equal(again, l) || at != 0 || e != api.OK {
		t.Fatalf("Split(%.60q, %q) = %.60v, %v, %v, want %.60v", s, kinds, again, at, e, l)
	}
	for many := range len(s) {
		checkSplit(t, s[:many], kinds)
	}
	checkSplit(t, s+"\x00", kinds)
	for most := range len(kinds) {
		checkSplit(t, s, kinds[:most])
	}
}

func kindsOf(l []api.Field) string {
	var b strings.Builder
	for _, f := range l {
		if f.Text {
			b.WriteByte('t')
		} else {
			b.WriteByte('n')
		}
	}
	return b.String()
}

// P2.1: fields' bytes are theirs, one behind the other.
func TestJoinIsEachFieldsBytes(t *testing.T) {
	r := rand.New(rand.NewSource(2))
	for range 200 {
		var l []api.Field
		var want string
		for range r.Intn(20) {
			if r.Intn(2) == 0 {
				n := r.Uint64() >> r.Intn(64)
				l, want = append(l, num(n)), want+codec.Number(n)
				continue
			}
			s := of(r.Intn(4097))
			b, _ := codec.Text(s)
			l, want = append(l, text(s)), want+b
		}
		if s, e := codec.Join(l); s != want || e != api.OK {
			t.Fatalf("Join(%.60v) = %.60q, %v, want %.60q", l, s, e, want)
		}
		checkSplit(t, want, kindsOf(l))
	}
}

// P2.3: a greater number's bytes, the other way round, are greater as texts are.
func TestNumbersAreOrderedAsTexts(t *testing.T) {
	numbers := []uint64{0, top}
	for bit := range 64 {
		n := uint64(1) << bit
		numbers = append(numbers, n-1, n, n+1, top-n, top/255*uint64(bit))
	}
	for _, a := range numbers {
		for _, b := range numbers {
			if cmp.Compare(turned(codec.Number(a)), turned(codec.Number(b))) != cmp.Compare(a, b) {
				t.Errorf("%v and %v: %q and %q", a, b, codec.Number(a), codec.Number(b))
			}
		}
	}
}

func turned(s string) string {
	b := []byte(s)
	slices.Reverse(b)
	return string(b)
}

// P1 and R2: Split ends without a panic at all arguments, as the model tells; a kind that is none is told first.
func FuzzSplit(f *testing.F) {
	f.Add("", "")
	f.Add("\x02\x01\x00\x00\x00\x00\x00\x00", "n")
	f.Add("\x02\x00ab", "t")
	f.Add("\x02\x00ab\x02", "tn")
	f.Add("\x01\x10"+of(4097), "t")
	f.Add("\x00\x00\x00", "tx")
	f.Fuzz(func(t *testing.T, s, kinds string) {
		if strings.Trim(kinds, "nt") == "" {
			checkSplit(t, s, kinds)
			return
		}
		if l, at, e := codec.Split(s, kinds); len(l) != 0 || at != 0 || e != api.ErrArg {
			t.Fatalf("Split(%q, %q) = %v, %v, %v, want ErrArg at 0", s, kinds, l, at, e)
		}
	})
}
