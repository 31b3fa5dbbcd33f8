package model_test

import (
	"math"
	"slices"
	"strconv"
	"strings"
	"testing"

	"saltus/api"
	"saltus/model"
)

// letters are 32 bytes, no two the same.
const letters = "ABCDEFGHIJKLMNOPQRSTUVWXYZ012345"

// data is a block of data: a text, and as many bytes . behind it as make 32.
func data(n uint64, text string) api.Cell {
	return api.Cell{N: n, State: 1, Data: text + strings.Repeat(".", 32-len(text))}
}

// raw is a block of data with just these 32 bytes, written with _ for bytes 0.
func raw(n uint64, text string) api.Cell {
	return api.Cell{N: n, State: 1, Data: nulls(text)}
}

// nulls is a text with bytes 0 in the places of _.
func nulls(text string) string { return strings.ReplaceAll(text, "_", "\x00") }

func reserved(n uint64) api.Cell { return api.Cell{N: n, State: 2} }

// apart are so many cells, of both states in turn, no two side by side.
func apart(many int) []api.Cell {
	var l []api.Cell
	for i := range many {
		if i%2 == 0 {
			l = append(l, data(uint64(2*i), strconv.Itoa(i)))
		} else {
			l = append(l, reserved(uint64(2*i)))
		}
	}
	return l
}

// beside are so many data cells, side by side.
func beside(many int) []api.Cell {
	var l []api.Cell
	for i := range many {
		l = append(l, data(uint64(i), strconv.Itoa(i)))
	}
	return l
}

// with is a list with more cells behind.
func with(l []api.Cell, more ...api.Cell) []api.Cell { return slices.Concat(l, more) }

// writeTells holds what Write of cells tells, with the quota of 64.
func writeTells(t *testing.T, l []api.Cell, from uint64, text string, want ...api.Cell) {
	t.Helper()
	if got, e := model.Write(l, 64, from, text); !same(got, want) || e != api.OK {
		t.Errorf("Write(%v, %v, %q) = %v, %v, want %v", show(l), from, text, show(got), e, show(want))
	}
}

func discardTells(t *testing.T, l []api.Cell, from, many uint64, want ...api.Cell) {
	t.Helper()
	if got, e := model.Discard(l, api.Span{From: from, Len: many}); !same(got, want) || e != api.OK {
		t.Errorf("Discard(%v, %v from %v) = %v, %v, want %v", show(l), many, from, show(got), e, show(want))
	}
}

func zeroTells(t *testing.T, l []api.Cell, from, many uint64, want ...api.Cell) {
	t.Helper()
	if got, e := model.Zero(l, api.Span{From: from, Len: many}); !same(got, want) || e != api.OK {
		t.Errorf("Zero(%v, %v from %v) = %v, %v, want %v", show(l), many, from, show(got), e, show(want))
	}
}

func reserveTells(t *testing.T, l []api.Cell, from, many uint64, want ...api.Cell) {
	t.Helper()
	if got, e := model.Reserve(l, 64, api.Span{From: from, Len: many}); !same(got, want) || e != api.OK {
		t.Errorf("Reserve(%v, %v from %v) = %v, %v, want %v", show(l), many, from, show(got), e, show(want))
	}
}

func readTells(t *testing.T, l []api.Cell, from uint64, want string) {
	t.Helper()
	checkReadTells(t, l, api.Span{From: from, Len: uint64(len(want))}, want)
}

// The chapter's example, and those of the whole that the model tells.
func TestExamples(t *testing.T) {
	none := strings.Repeat("_", 31)
	l := []api.Cell{raw(0, none+"a"), raw(1, "b"+none)}
	writeTells(t, nil, 31, "ab", l...)
	readTells(t, l, 30, "\x00ab\x00")
	if got, e := model.Write(l, 2, 64, "c"); len(got) != 0 || e != api.ErrSpace {
		t.Errorf("a third block with a quota of 2: %v, %v", show(got), e)
	}
	discardTells(t, l, 32, 32, l[0])
	readTells(t, l[:1], 30, "\x00a\x00\x00")
	reserveTells(t, l, 70, 3, with(l, reserved(2))...)
	readTells(t, with(l, reserved(2)), 32, "b"+strings.Repeat("\x00", 40))
	if got, e := model.Write(with(l, reserved(2)), 3, 95, "c"); !same(got, with(l, raw(2, none+"c"))) || e != api.OK {
		t.Errorf("a reserved block, written: %v, %v", show(got), e)
	}
	checkAllAre(t, l, api.Span{From: 0, Len: 225}, api.ErrSize)
	checkAllAre(t, l, api.Span{From: top, Len: 2}, api.ErrRange)
}

// P20.1

// rights are cells that may be.
func rights() [][]api.Cell {
	return [][]api.Cell{
		nil,
		{},
		{data(0, "")},
		{reserved(0)},
		{raw(0, strings.Repeat("_", 32))},
		{{N: 0, State: 1, Data: strings.Repeat("\xff", 32)}},
		{{N: 1, State: 1, Data: letters}},
		{data(blocks-1, "the last one")},
		{reserved(blocks - 1)},
		{reserved(0), reserved(blocks - 1)},
		{data(0, ""), data(1, "")},
		{data(0, ""), reserved(1)},
		{data(4, ""), reserved(5), reserved(6), data(1<<40, ""), data(blocks-2, ""), reserved(blocks - 1)},
		apart(63), apart(64), beside(63), beside(64),
		with(apart(63), reserved(blocks-1)),
	}
}

func TestRight(t *testing.T) {
	for _, l := range rights() {
		if !model.Right(l) || !rightly(l) {
			t.Errorf("Right(%v) = false", show(l))
		}
		checkMap(t, l)
		checkAll(t, l, 5, "ab")
		checkAll(t, l, top-1, "ab")
	}
}

// wrongs are cells that may not be, by what is wrong with them.
func wrongs() map[string][]api.Cell {
	l := map[string][]api.Cell{
		"65 cells":                      apart(65),
		"65 cells side by side":         beside(65),
		"66 cells":                      apart(66),
		"128 cells":                     beside(128),
		"320 cells":                     beside(320),
		"65600 cells":                   beside(65600),
		"65 cells that are nothing":     make([]api.Cell, 65),
		"a cell that is nothing":        {{}},
		"a hole":                        {{N: 5, State: 0}},
		"a hole with 32 bytes":          {{N: 5, State: 0, Data: letters}},
		"no block":                      {reserved(blocks)},
		"no block, data":                {data(blocks, "")},
		"behind that":                   {reserved(blocks + 1)},
		"far behind":                    {data(1<<63, "")},
		"bits of 2^59":                  {data(blocks+3, "")},
		"a block by its first byte":     {data(32*(blocks-1), "")},
		"the greatest number":           {reserved(top)},
		"the second is no block":        {data(1, ""), data(blocks, "")},
		"the same number":               {data(4, ""), data(4, "")},
		"the same number in two states": {data(4, ""), reserved(4)},
		"the same number reserved":      {reserved(4), reserved(4)},
		"number 0 twice":                {reserved(0), reserved(0)},
		"the greatest one twice":        {reserved(blocks - 1), reserved(blocks - 1)},
		"they fall":                     {data(5, ""), data(4, "")},
		"they fall to 0":                {reserved(1), reserved(0)},
		"they fall far":                 {reserved(blocks - 1), reserved(0)},
		"the third is behind the first": {data(4, ""), data(8, ""), data(6, "")},
		"the third is as the first":     {data(4, ""), data(8, ""), data(4, "")},
		"the last two are the same":     {data(4, ""), data(8, ""), reserved(8)},
		"reserved with a byte":          {{N: 5, State: 2, Data: "\x00"}},
		"reserved with 32 bytes":        {{N: 5, State: 2, Data: letters}},
		"reserved with 32 bytes 0":      {{N: 5, State: 2, Data: strings.Repeat("\x00", 32)}},
		"data with no bytes":            {{N: 5, State: 1}},
		"data with a byte":              {{N: 5, State: 1, Data: "a"}},
		"data with 31 bytes":            {{N: 5, State: 1, Data: letters[1:]}},
		"data with 33 bytes":            {{N: 5, State: 1, Data: letters + "a"}},
		"data with 64 bytes":            {{N: 5, State: 1, Data: letters + letters}},
		"data with 32 runes":            {{N: 5, State: 1, Data: strings.Repeat("\u00e4", 32)}},
		"data with 288 bytes":           {{N: 5, State: 1, Data: strings.Repeat(letters, 9)}},
	}
	for _, state := range []int{math.MinInt, -1 << 32, -2, -1, 0, 3, 4, 1 << 8, 1<<8 + 1, 1<<8 + 2, 1<<32 + 1, 1<<32 + 2, math.MaxInt} {
		l["state "+strconv.Itoa(state)] = []api.Cell{{N: 5, State: state}}
		l["32 bytes in state "+strconv.Itoa(state)] = []api.Cell{{N: 5, State: state, Data: letters}}
		l["the last in state "+strconv.Itoa(state)] = []api.Cell{data(4, ""), {N: 5, State: state}}
		l["the first in state "+strconv.Itoa(state)] = []api.Cell{{N: 5, State: state, Data: letters}, data(8, "")}
	}
	for _, at := range []int{0, 1, 30, 62, 63} {
		for why, wrong := range map[string]api.Cell{
			"a hole":            {N: uint64(2 * at)},
			"in state 3":        {N: uint64(2 * at), State: 3},
			"data with 31":      {N: uint64(2 * at), State: 1, Data: letters[1:]},
			"reserved with one": {N: uint64(2 * at), State: 2, Data: "a"},
			"no block":          reserved(blocks + uint64(2*at)),
			"as the next":       reserved(uint64(2*at + 2)),
			"as the one ahead":  reserved(uint64(2*at - 2)),
		} {
			// What is behind the last one may be, and there is none ahead of the first one.
			if why == "as the next" && at == 63 {
				continue
			}
			many := apart(64)
			many[at] = wrong
			l["of 64 the one at "+strconv.Itoa(at)+", "+why] = many
		}
	}
	return l
}

// Each is told by each call, ahead of whatever else is wrong.
func TestCellsThatMayNotBe(t *testing.T) {
	for why, l := range wrongs() {
		if rightly(l) || model.Right(l) {
			t.Errorf("%v: Right = true", why)
		}
		checkIsArg(t, l)
	}
}

// unlike are lists of which no two are the same: those that differ in one thing alone from one, and some that may not be.
func unlike() [][]api.Cell {
	one := []api.Cell{data(2, "a"), reserved(3), data(9, "b")}
	l := [][]api.Cell{one, nil, {{}}, {{}, {}}, {{N: 3}}, {reserved(3)}, {{N: 3, State: 1}}, {{N: 3, Data: "\x00"}}, {data(3, "")}, {data(3, ""), data(3, "")}, apart(63), apart(64), apart(65), beside(64), apart(64)[1:], {{N: top, State: -1}}}
	for at, c := range one {
		number, state, more, less := slices.Clone(one), slices.Clone(one), slices.Clone(one), slices.Clone(one)
		number[at].N = c.N + 1<<32
		state[at].State = 3 - c.State
		more[at].Data = c.Data + "\x00"
		l = append(l, number, state, more)
		if c.State == 1 {
			less[at].Data = c.Data[:31]
			l = append(l, less)
		}
		for i := range c.Data {
			for _, b := range []string{"\x00", "z", "\xff"} {
				other := slices.Clone(one)
				other[at].Data = c.Data[:i] + b + c.Data[i+1:]
				l = append(l, other)
			}
		}
		for _, s := range []int{math.MinInt, -1, 0, 3, 1<<32 + c.State, math.MaxInt} {
			other := slices.Clone(one)
			other[at].State = s
			l = append(l, other)
		}
		for _, n := range []uint64{0, blocks, c.N + blocks, top} {
			other := slices.Clone(one)
			other[at].N = n
			l = append(l, other)
		}
		l = append(l, slices.Delete(slices.Clone(one), at, at+1), slices.Insert(slices.Clone(one), at, c), slices.Insert(slices.Clone(one), at, api.Cell{}))
	}
	return append(l, with(one, api.Cell{}), with(one, one...), []api.Cell{one[1], one[0], one[2]}, []api.Cell{one[0], one[2], one[1]}, one[:1])
}

func TestLike(t *testing.T) {
	l := unlike()
	for i, a := range l {
		for j, b := range l {
			other := slices.Clone(b)
			for k := range other {
				other[k].Data = strings.Clone(other[k].Data)
			}
			if got := model.Like(a, other); got != (i == j) {
				t.Errorf("Like(%v, %v) = %v", show(a), show(b), got)
			}
		}
	}
}

func TestNilCellsAreNoCells(t *testing.T) {
	if !model.Like(nil, []api.Cell{}) || !model.Like([]api.Cell{}, nil) || !model.Like(nil, nil) {
		t.Error("cells that are nil are not as no cells")
	}
	for _, l := range [][]api.Cell{nil, {}} {
		if runs, e := model.Map(l); len(runs) != 0 || e != api.OK || !model.Right(l) {
			t.Errorf("Map of no cells = %v, %v", runs, e)
		}
		readTells(t, l, 0, "\x00")
		readTells(t, l, top-223, strings.Repeat("\x00", 224))
		discardTells(t, l, 0, 224)
		zeroTells(t, l, 0, 224)
		reserveTells(t, l, 31, 1, reserved(0))
		writeTells(t, l, 64, letters, api.Cell{N: 2, State: 1, Data: letters})
	}
}

func TestMap(t *testing.T) {
	for _, c := range []struct {
		l    []api.Cell
		want []api.Run
	}{
		{[]api.Cell{data(5, "")}, []api.Run{{From: 5, Len: 1, State: 1}}},
		{[]api.Cell{reserved(0)}, []api.Run{{From: 0, Len: 1, State: 2}}},
		{[]api.Cell{data(5, "a"), data(6, "b")}, []api.Run{{From: 5, Len: 2, State: 1}}},
		{[]api.Cell{reserved(5), reserved(6), reserved(7)}, []api.Run{{From: 5, Len: 3, State: 2}}},
		{[]api.Cell{data(5, "a"), reserved(6)}, []api.Run{{From: 5, Len: 1, State: 1}, {From: 6, Len: 1, State: 2}}},
		{[]api.Cell{reserved(5), data(6, ""), reserved(7)}, []api.Run{{From: 5, Len: 1, State: 2}, {From: 6, Len: 1, State: 1}, {From: 7, Len: 1, State: 2}}},
		{[]api.Cell{data(5, "a"), data(7, "a")}, []api.Run{{From: 5, Len: 1, State: 1}, {From: 7, Len: 1, State: 1}}},
		{[]api.Cell{data(5, "a"), data(6, "a"), data(8, ""), reserved(9), reserved(10), reserved(blocks - 1)}, []api.Run{{From: 5, Len: 2, State: 1}, {From: 8, Len: 1, State: 1}, {From: 9, Len: 2, State: 2}, {From: blocks - 1, Len: 1, State: 2}}},
		{[]api.Cell{data(blocks-2, ""), data(blocks-1, "")}, []api.Run{{From: blocks - 2, Len: 2, State: 1}}},
		{beside(64), []api.Run{{From: 0, Len: 64, State: 1}}},
	} {
		if got, e := model.Map(c.l); !slices.Equal(got, c.want) || e != api.OK {
			t.Errorf("Map(%v) = %v, %v, want %v", show(c.l), got, e, c.want)
		}
	}
	got, e := model.Map(apart(64))
	for i, r := range got {
		if r != (api.Run{From: uint64(2 * i), Len: 1, State: 1 + i%2}) {
			t.Errorf("the run at %v of 64 cells apart: %v", i, r)
		}
	}
	if len(got) != 64 || e != api.OK {
		t.Errorf("Map of 64 cells apart: %v runs, %v", len(got), e)
	}
}

// P20.2

// someCells are cells of both states, apart and side by side, up to the first block and the last one.
func someCells() []api.Cell {
	return []api.Cell{data(0, "nought"), reserved(1), data(3, letters), data(4, "four"), data(5, ""), reserved(8), data(blocks-2, "next to last"), data(blocks-1, letters)}
}

func TestSizesThatMayNotBe(t *testing.T) {
	for _, l := range [][]api.Cell{nil, someCells(), {reserved(0)}, apart(64), beside(64)} {
		for _, from := range []uint64{0, 1, 31, 32, 100, 1 << 32, blocks, 1 << 63, top - 224, top - 223, top - 31, top - 1, top} {
			for _, many := range []uint64{0, 225, 226, 255, 256, 257, 480, 1 << 16, 1<<16 + 1} {
				checkAllAre(t, l, api.Span{From: from, Len: many}, api.ErrSize)
			}
			for _, many := range []uint64{1<<32 + 1, 1 << 59, 1<<63 + 1, top - 223, top - 1, top} {
				checkAllAre(t, l, api.Span{From: from, Len: many}, api.ErrSize)
			}
		}
	}
}

func TestSpansBeyondTheLastByte(t *testing.T) {
	for _, l := range [][]api.Cell{nil, someCells(), {reserved(0)}, apart(64), beside(64)} {
		for _, many := range []uint64{1, 2, 31, 32, 33, 63, 64, 65, 223, 224} {
			checkAll(t, l, top-many+1, strings.Repeat("w", int(many)))
			for beyond := uint64(1); beyond < many; beyond++ {
				checkAllAre(t, l, api.Span{From: top - many + 1 + beyond, Len: many}, api.ErrRange)
			}
		}
	}
}

// Cells that may not be are told ahead of all, a size ahead of the last byte, and that ahead of no space.
func TestWhichErrorComesFirst(t *testing.T) {
	for _, wrong := range [][]api.Cell{apart(65), {{}}, {reserved(blocks)}} {
		for _, s := range []api.Span{{}, {From: top}, {From: top, Len: 225}, {From: top, Len: 2}, {From: top - 223, Len: 225}, {From: 1000, Len: 1}} {
			checkAllAre(t, wrong, s, api.ErrArg)
		}
	}
	for _, l := range [][]api.Cell{apart(64), nil} {
		checkAllAre(t, l, api.Span{From: top - 223, Len: 225}, api.ErrSize)
		checkAllAre(t, l, api.Span{From: top, Len: 0}, api.ErrSize)
		checkAllAre(t, l, api.Span{From: 1000, Len: 225}, api.ErrSize)
		checkAllAre(t, l, api.Span{From: top, Len: 2}, api.ErrRange)
		checkAllAre(t, l, api.Span{From: top - 222, Len: 224}, api.ErrRange)
		for _, quota := range []int{-1, 0} {
			checkIs(t, "Write", l, api.ErrSpace, writer(top, "a")(quota))
			checkIs(t, "Reserve", l, api.ErrSpace, reserver(api.Span{From: top, Len: 1})(quota))
		}
	}
}

func TestRead(t *testing.T) {
	l := someCells()
	nulls := func(many int) string { return strings.Repeat("\x00", many) }
	dots := func(many int) string { return strings.Repeat(".", many) }
	readTells(t, l, 0, "n")
	readTells(t, l, 31, ".")
	readTells(t, l, 0, "nought"+dots(26))
	readTells(t, l, 30, ".."+nulls(2))
	readTells(t, l, 32, nulls(32))
	readTells(t, l, 32, nulls(64))
	readTells(t, l, 63, nulls(2))
	readTells(t, l, 95, "\x00A")
	readTells(t, l, 96, letters)
	readTells(t, l, 100, "E")
	readTells(t, l, 100, "EFGH")
	readTells(t, l, 120, letters[24:]+"four")
	readTells(t, l, 127, "5four"+dots(28)+".")
	readTells(t, l, 94, nulls(2)+letters+"four"+dots(28+32)+nulls(94))
	readTells(t, l, 100, letters[4:]+"four"+dots(28+32)+nulls(64)+nulls(36))
	readTells(t, l, 1<<40, nulls(224))
	readTells(t, l, top, "5")
	readTells(t, l, top-31, letters)
	readTells(t, l, top-32, "."+letters)
	readTells(t, l, top-95, nulls(32)+"next to last"+dots(20)+letters)
	readTells(t, l, top-223, nulls(160)+"next to last"+dots(20)+letters)
}

func TestDiscard(t *testing.T) {
	l := someCells()
	a, b, c, d, e, f, y, z := l[0], l[1], l[2], l[3], l[4], l[5], l[6], l[7]
	// Blocks that are in the span become holes, whatever they are.
	discardTells(t, l, 0, 32, b, c, d, e, f, y, z)
	discardTells(t, l, 32, 32, a, c, d, e, f, y, z)
	discardTells(t, l, 64, 32, l...)
	discardTells(t, l, 96, 96, a, b, f, y, z)
	discardTells(t, l, 0, 192, f, y, z)
	discardTells(t, l, 96, 224, a, b, y, z)
	discardTells(t, l, top-31, 32, a, b, c, d, e, f, y)
	discardTells(t, l, top-63, 64, a, b, c, d, e, f)
	discardTells(t, l, 1<<40, 224, l...)
	// Of a data block that just meets it the span's bytes alone become 0; a reserved one stays.
	discardTells(t, l, 96, 1, a, b, raw(3, "_"+letters[1:]), d, e, f, y, z)
	discardTells(t, l, 127, 1, a, b, raw(3, letters[:31]+"_"), d, e, f, y, z)
	discardTells(t, l, 96, 31, a, b, raw(3, strings.Repeat("_", 31)+"5"), d, e, f, y, z)
	discardTells(t, l, 97, 31, a, b, raw(3, "A"+strings.Repeat("_", 31)), d, e, f, y, z)
	discardTells(t, l, 106, 5, a, b, raw(3, "ABCDEFGHIJ_____PQRSTUVWXYZ012345"), d, e, f, y, z)
	discardTells(t, l, 32, 31, l...)
	discardTells(t, l, 33, 31, l...)
	discardTells(t, l, 256, 31, l...)
	discardTells(t, l, 31, 33, raw(0, a.Data[:31]+"_"), c, d, e, f, y, z)
	discardTells(t, l, 31, 32, raw(0, a.Data[:31]+"_"), b, c, d, e, f, y, z)
	discardTells(t, l, 63, 34, a, b, raw(3, "_"+letters[1:]), d, e, f, y, z)
	discardTells(t, l, 120, 48, a, b, raw(3, letters[:24]+"________"), raw(5, "________"+e.Data[8:]), f, y, z)
	discardTells(t, l, 97, 31+32+31, a, b, raw(3, "A"+strings.Repeat("_", 31)), raw(5, strings.Repeat("_", 31)+"."), f, y, z)
	discardTells(t, l, top, 1, a, b, c, d, e, f, y, raw(blocks-1, letters[:31]+"_"))
	discardTells(t, l, top-32, 33, a, b, c, d, e, f, raw(blocks-2, y.Data[:31]+"_"))
	// Data of bytes 0 stays data.
	zeros := raw(7, strings.Repeat("_", 32))
	discardTells(t, []api.Cell{zeros}, 225, 31, zeros)
	discardTells(t, []api.Cell{zeros}, 224, 32)
}

func TestZero(t *testing.T) {
	l := someCells()
	a, b, c, d, e, f, y, z := l[0], l[1], l[2], l[3], l[4], l[5], l[6], l[7]
	// Data blocks that are in the span become reserved; holes stay holes, and reserved blocks stay.
	zeroTells(t, l, 0, 32, reserved(0), b, c, d, e, f, y, z)
	zeroTells(t, l, 32, 32, l...)
	zeroTells(t, l, 64, 32, l...)
	zeroTells(t, l, 32, 64, l...)
	zeroTells(t, l, 96, 96, a, b, reserved(3), reserved(4), reserved(5), f, y, z)
	zeroTells(t, l, 0, 192, reserved(0), b, reserved(3), reserved(4), reserved(5), f, y, z)
	zeroTells(t, l, 96, 224, a, b, reserved(3), reserved(4), reserved(5), f, y, z)
	zeroTells(t, l, top-31, 32, a, b, c, d, e, f, y, reserved(blocks-1))
	zeroTells(t, l, top-63, 64, a, b, c, d, e, f, reserved(blocks-2), reserved(blocks-1))
	zeroTells(t, l, 1<<40, 224, l...)
	// Of a data block that just meets it the span's bytes alone become 0.
	zeroTells(t, l, 96, 1, a, b, raw(3, "_"+letters[1:]), d, e, f, y, z)
	zeroTells(t, l, 127, 1, a, b, raw(3, letters[:31]+"_"), d, e, f, y, z)
	zeroTells(t, l, 96, 31, a, b, raw(3, strings.Repeat("_", 31)+"5"), d, e, f, y, z)
	zeroTells(t, l, 97, 31, a, b, raw(3, "A"+strings.Repeat("_", 31)), d, e, f, y, z)
	zeroTells(t, l, 106, 5, a, b, raw(3, "ABCDEFGHIJ_____PQRSTUVWXYZ012345"), d, e, f, y, z)
	zeroTells(t, l, 33, 30, l...)
	zeroTells(t, l, 31, 32, raw(0, a.Data[:31]+"_"), b, c, d, e, f, y, z)
	zeroTells(t, l, 63, 34, a, b, raw(3, "_"+letters[1:]), d, e, f, y, z)
	zeroTells(t, l, 120, 48, a, b, raw(3, letters[:24]+"________"), reserved(4), raw(5, "________"+e.Data[8:]), f, y, z)
	zeroTells(t, l, top, 1, a, b, c, d, e, f, y, raw(blocks-1, letters[:31]+"_"))
	zeroTells(t, l, top-32, 33, a, b, c, d, e, f, raw(blocks-2, y.Data[:31]+"_"), reserved(blocks-1))
	zeros := raw(7, strings.Repeat("_", 32))
	zeroTells(t, []api.Cell{zeros}, 225, 31, zeros)
	zeroTells(t, []api.Cell{zeros}, 224, 32, reserved(7))
}

// P20.3

func TestWrite(t *testing.T) {
	l := someCells()
	a, b, c, d, e, f, y, z := l[0], l[1], l[2], l[3], l[4], l[5], l[6], l[7]
	none := strings.Repeat("_", 32)
	// Over data bytes beside the span's stay.
	writeTells(t, l, 0, "w", data(0, "wought"), b, c, d, e, f, y, z)
	writeTells(t, l, 96, "w", a, b, raw(3, "w"+letters[1:]), d, e, f, y, z)
	writeTells(t, l, 127, "w", a, b, raw(3, letters[:31]+"w"), d, e, f, y, z)
	writeTells(t, l, 106, "\x00w\xffw\x00", a, b, raw(3, "ABCDEFGHIJ_w\xffw_PQRSTUVWXYZ012345"), d, e, f, y, z)
	writeTells(t, l, 97, nulls(none[1:]), a, b, raw(3, "A"+none[1:]), d, e, f, y, z)
	writeTells(t, l, 96, nulls(none), a, b, raw(3, none), d, e, f, y, z)
	writeTells(t, l, 128, letters, a, b, c, raw(4, letters), e, f, y, z)
	writeTells(t, l, 127, "ww", a, b, raw(3, letters[:31]+"w"), data(4, "wour"), e, f, y, z)
	writeTells(t, l, 120, "12345678four"+strings.Repeat(".", 28)+"five", a, b, raw(3, letters[:24]+"12345678"), d, data(5, "five"), f, y, z)
	writeTells(t, l, 96, letters, l...)
	writeTells(t, l, top, "w", a, b, c, d, e, f, y, raw(blocks-1, letters[:31]+"w"))
	writeTells(t, l, top-32, "w"+letters, a, b, c, d, e, f, raw(blocks-2, y.Data[:31]+"w"), z)
	// Over reserved blocks and holes they are 0.
	writeTells(t, l, 32, "w", a, raw(1, "w"+none[1:]), c, d, e, f, y, z)
	writeTells(t, l, 63, "w", a, raw(1, none[1:]+"w"), c, d, e, f, y, z)
	writeTells(t, l, 40, "\x00", a, raw(1, none), c, d, e, f, y, z)
	writeTells(t, l, 64, "w", a, b, raw(2, "w"+none[1:]), c, d, e, f, y, z)
	writeTells(t, l, 95, "w", a, b, raw(2, none[1:]+"w"), c, d, e, f, y, z)
	writeTells(t, l, 74, "\x00\x00", a, b, raw(2, none), c, d, e, f, y, z)
	writeTells(t, l, 74, "hole", a, b, raw(2, none[:10]+"hole"+none[14:]), c, d, e, f, y, z)
	writeTells(t, l, 64, letters, a, b, raw(2, letters), c, d, e, f, y, z)
	writeTells(t, l, 1<<40, "w", a, b, c, d, e, f, raw(1<<35, "w"+none[1:]), y, z)
	writeTells(t, l, top-64, "w", a, b, c, d, e, f, raw(blocks-3, none[1:]+"w"), y, z)
	writeTells(t, nil, top, "w", raw(blocks-1, none[1:]+"w"))
	writeTells(t, nil, 0, "w", raw(0, "w"+none[1:]))
	writeTells(t, nil, 1, letters[1:], raw(0, "_"+letters[1:]))
	writeTells(t, nil, 0, letters[1:], raw(0, letters[1:]+"_"))
	writeTells(t, nil, 0, letters+"w", raw(0, letters), raw(1, "w"+none[1:]))
	// Over all of them by turns.
	writeTells(t, l, 31, "w"+letters+strings.Repeat("v", 32)+"u", raw(0, a.Data[:31]+"w"), raw(1, letters), raw(2, strings.Repeat("v", 32)), raw(3, "u"+letters[1:]), d, e, f, y, z)
	eight := letters + strings.Repeat("uuuuvvvv", 24)
	writeTells(t, l, 20, eight, raw(0, a.Data[:20]+eight[:12]), raw(1, eight[12:44]), raw(2, eight[44:76]), raw(3, eight[76:108]), raw(4, eight[108:140]), raw(5, eight[140:172]), raw(6, eight[172:204]), raw(7, eight[204:]+none[20:]), f, y, z)
}

func TestReserve(t *testing.T) {
	l := someCells()
	a, b, c, d, e, f, y, z := l[0], l[1], l[2], l[3], l[4], l[5], l[6], l[7]
	for _, from := range []uint64{0, 31, 32, 63, 96, 100, 127, 128, 160, 191, 256, top - 63, top - 31, top} {
		reserveTells(t, l, from, 1, l...)
	}
	for _, from := range []uint64{64, 70, 95} {
		reserveTells(t, l, from, 1, a, b, reserved(2), c, d, e, f, y, z)
	}
	reserveTells(t, l, 64, 32, a, b, reserved(2), c, d, e, f, y, z)
	reserveTells(t, l, 0, 224, a, b, reserved(2), c, d, e, reserved(6), f, y, z)
	reserveTells(t, l, 63, 2, a, b, reserved(2), c, d, e, f, y, z)
	reserveTells(t, l, 95, 2, a, b, reserved(2), c, d, e, f, y, z)
	reserveTells(t, l, 191, 66, a, b, c, d, e, reserved(6), reserved(7), f, y, z)
	reserveTells(t, l, 223, 2, a, b, c, d, e, reserved(6), reserved(7), f, y, z)
	reserveTells(t, l, 96, 96, l...)
	reserveTells(t, l, 287, 2, a, b, c, d, e, f, reserved(9), y, z)
	reserveTells(t, l, top-64, 65, a, b, c, d, e, f, reserved(blocks-3), y, z)
	reserveTells(t, l, top-64, 1, a, b, c, d, e, f, reserved(blocks-3), y, z)
	reserveTells(t, nil, top, 1, reserved(blocks-1))
	reserveTells(t, nil, 31, 194, reserved(0), reserved(1), reserved(2), reserved(3), reserved(4), reserved(5), reserved(6), reserved(7))
	reserveTells(t, nil, 32, 193, reserved(1), reserved(2), reserved(3), reserved(4), reserved(5), reserved(6), reserved(7))
}

// checkRoom holds that to write a span, and to reserve it, makes so many cells more, and by which quotas there is room for that.
func checkRoom(t *testing.T, l []api.Cell, from, many uint64, more int) {
	t.Helper()
	then := len(l) + more
	s := api.Span{From: from, Len: many}
	for _, quota := range append(quotas(len(l), then), 7, 40, 62) {
		want := api.OK
		if more > 0 && (then > quota || then > 64) {
			want = api.ErrSpace
		}
		for name, call := range map[string]func(l []api.Cell) ([]api.Cell, api.Errno){
			"Write":   writer(from, strings.Repeat("w", int(many)))(quota),
			"Reserve": reserver(s)(quota),
		} {
			got, e := call(l)
			if e != want || e == api.OK && len(got) != then || e != api.OK && len(got) != 0 {
				t.Errorf("%v of %v, %v with quota %v = %v, %v, want %v", name, show(l), s, quota, show(got), e, want)
			}
		}
	}
}

func TestRoom(t *testing.T) {
	// No more cells than before have room always, though they are more than the quota.
	checkRoom(t, someCells(), 0, 1, 0)
	checkRoom(t, someCells(), 32, 32, 0)
	checkRoom(t, someCells(), 96, 96, 0)
	checkRoom(t, someCells(), top-63, 64, 0)
	checkRoom(t, apart(64), 0, 32, 0)
	checkRoom(t, apart(64), 64*63+5, 3, 0)
	checkRoom(t, beside(64), 1800, 224, 0)
	// One more, and several: of holes alone, and beside others.
	checkRoom(t, nil, 0, 1, 1)
	checkRoom(t, nil, top, 1, 1)
	checkRoom(t, nil, 31, 2, 2)
	checkRoom(t, nil, 20, 224, 8)
	checkRoom(t, nil, 32, 224, 7)
	checkRoom(t, someCells(), 64, 32, 1)
	checkRoom(t, someCells(), 0, 224, 2)
	checkRoom(t, someCells(), 191, 66, 2)
	// 63 cells, 64 and 65.
	checkRoom(t, apart(62), 4, 200, 3)
	checkRoom(t, apart(62), 31, 2, 1)
	checkRoom(t, apart(62), 31, 66, 2)
	checkRoom(t, apart(63), 32, 1, 1)
	checkRoom(t, apart(63), 31, 2, 1)
	checkRoom(t, apart(63), 31, 98, 2)
	checkRoom(t, beside(63), 63*32, 32, 1)
	checkRoom(t, beside(63), 63*32, 33, 2)
	checkRoom(t, beside(57), 57*32, 224, 7)
	checkRoom(t, beside(57), 57*32+1, 224, 8)
	checkRoom(t, beside(56), 56*32+1, 224, 8)
	checkRoom(t, apart(64), 32, 1, 1)
	checkRoom(t, apart(64), 20, 224, 4)
	checkRoom(t, beside(64), 64*32-1, 2, 1)
	checkRoom(t, beside(64), top, 1, 1)
}

// A quota asks nothing of those that discard and zero: of more cells than any quota they make fewer, or as many.
func TestNoSpaceIsAskedForLess(t *testing.T) {
	l := beside(64)
	discardTells(t, l, 0, 32, l[1:]...)
	zeroTells(t, l, 0, 32, with([]api.Cell{reserved(0)}, l[1:]...)...)
	discardTells(t, l, 63*32, 64, l[:63]...)
	discardTells(t, l, 64*32, 224, l...)
	zeroTells(t, l, 64*32, 224, l...)
	discardTells(t, apart(64), 20, 224, with([]api.Cell{raw(0, apart(1)[0].Data[:20]+strings.Repeat("_", 12))}, apart(64)[4:]...)...)
}

// P20.4: what was written twice, reserved behind or ahead, and discarded or zeroed again.
func TestOneBehindAnother(t *testing.T) {
	none := strings.Repeat("_", 32)
	written, _ := model.Write(nil, 64, 20, letters)
	both := []api.Cell{raw(0, none[:20]+letters[:12]), raw(1, letters[12:]+none[20:])}
	writeTells(t, nil, 20, letters, both...)
	writeTells(t, written, 20, letters, both...)
	writeTells(t, written, 30, "again", raw(0, none[:20]+letters[:10]+"ag"), raw(1, "ain"+letters[15:]+none[20:]))
	reserveTells(t, written, 20, 32, both...)
	reserveTells(t, written, 20, 100, with(both, reserved(2), reserved(3))...)
	ahead, _ := model.Reserve(nil, 64, api.Span{From: 20, Len: 100})
	reserveTells(t, ahead, 20, 100, reserved(0), reserved(1), reserved(2), reserved(3))
	writeTells(t, ahead, 20, letters, with(both, reserved(2), reserved(3))...)
	readTells(t, ahead, 0, strings.Repeat("\x00", 128))

	discardTells(t, written, 20, 32, raw(0, none), raw(1, none))
	zeroTells(t, written, 20, 32, raw(0, none), raw(1, none))
	discardTells(t, written, 20, 44, raw(0, none))
	zeroTells(t, written, 20, 44, raw(0, none), reserved(1))
	discardTells(t, written, 0, 64)
	zeroTells(t, written, 0, 64, reserved(0), reserved(1))
	discardTells(t, ahead, 20, 100, reserved(0), reserved(3))
	zeroTells(t, ahead, 20, 100, reserved(0), reserved(1), reserved(2), reserved(3))
	zeroed, _ := model.Zero(written, api.Span{From: 20, Len: 44})
	zeroTells(t, zeroed, 20, 44, raw(0, none), reserved(1))
	discardTells(t, zeroed, 20, 44, raw(0, none))
	writeTells(t, zeroed, 32, letters, raw(0, none), raw(1, letters))
	discarded, _ := model.Discard(written, api.Span{From: 20, Len: 44})
	zeroTells(t, discarded, 20, 44, raw(0, none))
	reserveTells(t, discarded, 20, 44, raw(0, none), reserved(1))
	readTells(t, written, 18, "\x00\x00"+letters+"\x00")
}

// R5: all bytes are as any other.
func TestEachByteIsAsAnyOther(t *testing.T) {
	for first := 0; first < 256; first += 128 {
		var text []byte
		for i := range 128 {
			text = append(text, byte(first+i))
		}
		checkAll(t, apart(10), 32, string(text))
		checkAll(t, apart(10), 45, string(text))
		got, _ := model.Write(apart(10), 64, 45, string(text))
		readTells(t, got, 45, string(text))
		checkAll(t, got, 40, string(text[:99]))
	}
}

// R4: no call changes the cells that it was handed, nor what stands behind their end, and what is answered is nobody else's (checkAll and checkIs hold that of each change).
func TestCellsAreNotChangedAndNotShared(t *testing.T) {
	for _, l := range append(rights(), apart(65), []api.Cell{{}}) {
		memory := with(l, behind...)
		model.Right(memory[:len(l)])
		model.Like(memory[:len(l)], memory[:len(l)])
		model.Map(memory[:len(l)])
		for _, s := range []api.Span{{}, {From: 0, Len: 224}, {From: 31, Len: 2}, {From: top, Len: 1}, {From: top, Len: 2}, {From: 32, Len: 32}} {
			model.Read(memory[:len(l)], s)
			for name, call := range map[string]func(l []api.Cell) ([]api.Cell, api.Errno){
				"Discard": discarder(s), "Zero": zeroer(s), "Reserve": reserver(s)(64), "Reserve with quota 0": reserver(s)(0),
				"Write": writer(s.From, strings.Repeat("w", int(s.Len)))(64), "Write with quota 0": writer(s.From, strings.Repeat("w", int(s.Len)))(0),
			} {
				asked(t, name, l, call)
			}
		}
		if !same(memory, with(l, behind...)) {
			t.Errorf("a call changed cells: %v", show(memory))
		}
	}
}
