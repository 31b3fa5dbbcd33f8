package codec_test

import (
	"slices"
	"strings"
	"testing"

	"saltus/api"
	"saltus/codec"
)

const top = uint64(1<<64 - 1)

func num(n uint64) api.Field { return api.Field{N: n} }

func text(s string) api.Field { return api.Field{Text: true, S: s} }

// of is a text of so many bytes, that begins and ends in its own way.
func of(many int) string {
	if many < 2 {
		return strings.Repeat("<", many)
	}
	return "<" + strings.Repeat("-", many-2) + ">"
}

// P2.1

func TestNumber(t *testing.T) {
	for _, x := range []struct {
		n     uint64
		bytes string
	}{
		{0, "\x00\x00\x00\x00\x00\x00\x00\x00"},
		{1, "\x01\x00\x00\x00\x00\x00\x00\x00"},
		{255, "\xff\x00\x00\x00\x00\x00\x00\x00"},
		{256, "\x00\x01\x00\x00\x00\x00\x00\x00"},
		{258, "\x02\x01\x00\x00\x00\x00\x00\x00"},
		{1 << 32, "\x00\x00\x00\x00\x01\x00\x00\x00"},
		{1 << 63, "\x00\x00\x00\x00\x00\x00\x00\x80"},
		{0x0102030405060708, "\x08\x07\x06\x05\x04\x03\x02\x01"},
		{top - 1, "\xfe\xff\xff\xff\xff\xff\xff\xff"},
		{top, "\xff\xff\xff\xff\xff\xff\xff\xff"},
	} {
		if s := codec.Number(x.n); s != x.bytes {
			t.Errorf("Number(%v) = %q, want %q", x.n, s, x.bytes)
		}
	}
}

func TestText(t *testing.T) {
	for _, x := range []struct {
		s, bytes string
	}{
		{"", "\x00\x00"},
		{"a", "\x01\x00a"},
		{"ab", "\x02\x00ab"},
		{"\x00", "\x01\x00\x00"},
		{"\xff\xc3n\x00t", "\x05\x00\xff\xc3n\x00t"},
		{"é", "\x02\x00\xc3\xa9"},
		{of(255), "\xff\x00" + of(255)},
		{of(256), "\x00\x01" + of(256)},
		{of(257), "\x01\x01" + of(257)},
		{of(4095), "\xff\x0f" + of(4095)},
		{of(4096), "\x00\x10" + of(4096)},
	} {
		if s, e := codec.Text(x.s); s != x.bytes || e != api.OK {
			t.Errorf("Text(%.20q) = %.20q, %v, want %.20q", x.s, s, e, x.bytes)
		}
	}
}

func TestTextThatIsTooLong(t *testing.T) {
	for _, many := range []int{4097, 4098, 8192, 1<<16 - 1, 1 << 16, 1<<16 + 1, 1<<16 + 4096, 1 << 20} {
		if s, e := codec.Text(of(many)); s != "" || e != api.ErrSize {
			t.Errorf("Text of %v bytes = %.20q, %v, want ErrSize", many, s, e)
		}
	}
}

func TestJoin(t *testing.T) {
	for _, x := range []struct {
		l     []api.Field
		bytes string
	}{
		{nil, ""},
		{[]api.Field{}, ""},
		{[]api.Field{{}}, "\x00\x00\x00\x00\x00\x00\x00\x00"},
		{[]api.Field{num(258)}, "\x02\x01\x00\x00\x00\x00\x00\x00"},
		{[]api.Field{text("ab")}, "\x02\x00ab"},
		{[]api.Field{text("")}, "\x00\x00"},
		{[]api.Field{text(""), text("")}, "\x00\x00\x00\x00"},
		{[]api.Field{text("a"), num(1), text("")}, "\x01\x00a\x01\x00\x00\x00\x00\x00\x00\x00\x00\x00"},
		{[]api.Field{num(1), text("a"), num(top)}, "\x01\x00\x00\x00\x00\x00\x00\x00\x01\x00a\xff\xff\xff\xff\xff\xff\xff\xff"},
		{[]api.Field{text(of(4096)), text(of(4096))}, "\x00\x10" + of(4096) + "\x00\x10" + of(4096)},
	} {
		if s, e := codec.Join(x.l); s != x.bytes || e != api.OK {
			t.Errorf("Join(%.60v) = %.60q, %v, want %.60q", x.l, s, e, x.bytes)
		}
	}
}

// What is no part of a field does not count: a text's number, and a number's text, however long.
func TestJoinLooksAtTheFieldAlone(t *testing.T) {
	for _, x := range []struct {
		f, alone api.Field
	}{
		{api.Field{Text: true, N: 7, S: "ab"}, text("ab")},
		{api.Field{N: 7, S: "ab"}, num(7)},
		{api.Field{N: 7, S: of(4097)}, num(7)},
	} {
		s, e := codec.Join([]api.Field{x.f})
		want, _ := codec.Join([]api.Field{x.alone})
		if s != want || e != api.OK {
			t.Errorf("Join(%.30v) = %.30q, %v, want %.30q", x.f, s, e, want)
		}
	}
}

func TestJoinOfATextThatIsTooLong(t *testing.T) {
	long := text(of(4097))
	for _, l := range [][]api.Field{
		{long},
		{long, num(1), text("ab")},
		{num(1), long, text("ab")},
		{num(1), text("ab"), long},
		{text(of(4096)), text(of(1 << 16))},
		{long, long},
	} {
		if s, e := codec.Join(l); s != "" || e != api.ErrSize {
			t.Errorf("Join(%.60v) = %.60q, %v, want ErrSize", l, s, e)
		}
	}
}

// P2.2

func TestSplit(t *testing.T) {
	for _, x := range []struct {
		s, kinds string
		l        []api.Field
	}{
		{"", "", nil},
		{"\x02\x01\x00\x00\x00\x00\x00\x00", "n", []api.Field{num(258)}},
		{"\x08\x07\x06\x05\x04\x03\x02\x01", "n", []api.Field{num(0x0102030405060708)}},
		{"\xff\xff\xff\xff\xff\xff\xff\xff", "n", []api.Field{num(top)}},
		{"\x00\x00\x00\x00\x00\x00\x00\x00", "n", []api.Field{num(0)}},
		{"\x00\x00\x00\x00\x00\x00\x00\x00", "tttt", []api.Field{text(""), text(""), text(""), text("")}},
		{"\x02\x00ab", "t", []api.Field{text("ab")}},
		{"\x00\x00", "t", []api.Field{text("")}},
		{"\x01\x00a\x01\x00\x00\x00\x00\x00\x00\x00\x00\x00", "tnt", []api.Field{text("a"), num(1), text("")}},
		{"\x01\x00\x00\x00\x00\x00\x00\x00\x01\x00a\xff\xff\xff\xff\xff\xff\xff\xff", "ntn", []api.Field{num(1), text("a"), num(top)}},
		{"\x00\x01" + of(256), "t", []api.Field{text(of(256))}},
		{"\x00\x10" + of(4096), "t", []api.Field{text(of(4096))}},
		{"\x00\x10" + of(4096) + "\x00\x10" + of(4096), "tt", []api.Field{text(of(4096)), text(of(4096))}},
	} {
		if l, at, e := codec.Split(x.s, x.kinds); !slices.Equal(l, x.l) || at != 0 || e != api.OK {
			t.Errorf("Split(%.60q, %q) = %.60v, %v, %v, want %.60v", x.s, x.kinds, l, at, e, x.l)
		}
	}
}

// A kind that is none is told ahead of all else, wherever it is, and its place is 0.
func TestSplitOfAKindThatIsNone(t *testing.T) {
	n := codec.Number(1)
	for _, x := range []struct{ s, kinds string }{
		{"", "x"},
		{"", "N"},
		{"", "T"},
		{"", "\x00"},
		{"", " "},
		{"", "\xff"},
		{"", "é"},
		{"", "ñ"},
		{n, "nx"},
		{n, "xn"},
		{n + n, "nxn"},
		{n + n, "nn\x00"},
		{n + "\x05\x00", "ntx"},
		{n + "\xff\xff", "nt\xff"},
		{n + "behind", "nx"},
		{"ends within", "tttx"},
		{"", strings.Repeat("n", 1000) + "x"},
	} {
		if l, at, e := codec.Split(x.s, x.kinds); len(l) != 0 || at != 0 || e != api.ErrArg {
			t.Errorf("Split(%q, %.20q) = %v, %v, %v, want ErrArg at 0", x.s, x.kinds, l, at, e)
		}
	}
}

func TestSplitTellsWhere(t *testing.T) {
	n := codec.Number(1)
	ab := "\x02\x00ab"
	full := "\x00\x10" + of(4096)
	for _, x := range []struct {
		s, kinds string
		at       int
	}{
		// Bytes that end within a field, or ahead of it.
		{"", "n", 0},
		{"", "t", 0},
		{n[:7], "n", 0},
		{"\x01", "t", 0},
		{"\x00", "t", 0},
		{"\x02\x00a", "t", 0},
		{"\x01\x00", "t", 0},
		{"\x01\x01a", "t", 0},
		{n, "nn", 8},
		{n, "nt", 8},
		{n + n[:1], "nn", 8},
		{n + n[:7], "nn", 8},
		{n + "\x00", "nt", 8},
		{n + "\x03\x00ab", "nt", 8},
		{ab, "tt", 4},
		{ab, "tn", 4},
		{ab + "\x00", "tt", 4},
		{ab + "\x01\x00", "tt", 4},
		{ab + n + "\x09", "tnt", 12},
		{"\x00\x00\x00\x00\x01", "ttt", 4},
		{full[:4097], "t", 0},
		{full + full[:4097], "tt", 4098},

		// A text of more than 4096 bytes, though they are there.
		{"\x01\x10" + of(4097), "t", 0},
		{"\x01\x10" + of(8192), "t", 0},
		{"\xff\xff" + of(1<<16-1), "t", 0},
		{"\x00\x20" + of(8192), "t", 0},
		{n + "\x01\x10" + of(4097), "nt", 8},
		{full + "\x01\x10" + of(4097), "tt", 4098},
		{"\x01\x10" + of(4097) + n[:7], "tn", 0},

		// And though they are not.
		{"\x01\x10", "t", 0},
		{"\xff\xff", "t", 0},
		{ab + "\x01\x10" + of(4096), "tt", 4},

		// Bytes behind the last field.
		{"a", "", 0},
		{n, "", 0},
		{n + "a", "n", 8},
		{n + n, "n", 8},
		{ab + "\x00", "t", 4},
		{ab + "\x00\x00", "t", 4},
		{n + ab + "behind it", "nt", 12},
		{"\x00\x00\x00", "t", 2},
		{full + "a", "t", 4098},

		// The first field that is not there is told, whatever would be behind it.
		{n[:7], "nnn", 0},
		{"\x03\x00ab", "tn", 0},
		{n + "\x09\x00ab", "ntnt", 8},
		{"\x05\x00", strings.Repeat("t", 1000), 0},
	} {
		if l, at, e := codec.Split(x.s, x.kinds); len(l) != 0 || at != x.at || e != api.ErrSyntax {
			t.Errorf("Split(%.60q, %.20q) = %.60v, %v, %v, want ErrSyntax at %v", x.s, x.kinds, l, at, e, x.at)
		}
	}
}

// R4

func TestListsAreNotChanged(t *testing.T) {
	l := []api.Field{num(1), {Text: true, N: 3, S: "ab"}, {N: 4, S: "cd"}, text(of(4097))}
	was := slices.Clone(l)
	if s, e := codec.Join(l[:3]); len(s) != 20 || e != api.OK {
		t.Error(s, e)
	}
	codec.Join(l)
	if !slices.Equal(l, was) {
		t.Errorf("Join changed its list: %.60v", l)
	}
}
