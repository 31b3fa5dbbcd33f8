package model_test

import (
	"bytes"
	"fmt"
	"maps"
	"math"
	"math/big"
	"math/rand"
	"slices"
	"strings"
	"testing"

	"saltus/api"
	"saltus/extent"
	"saltus/model"
)

// Cells are told here in another way: a picture has a block's state and its bytes by its number, and is changed byte by byte. Holes are not in it.
type picture map[uint64]block

type block struct {
	state int
	bytes [32]byte
}

const (
	top    = uint64(math.MaxUint64)
	blocks = uint64(1) << 59
)

// pictureOf is the picture of cells.
func pictureOf(l []api.Cell) picture {
	p := picture{}
	for _, c := range l {
		b := block{state: c.State}
		copy(b.bytes[:], c.Data)
		p[c.N] = b
	}
	return p
}

// cells are a picture's cells.
func (p picture) cells() []api.Cell {
	var l []api.Cell
	for _, n := range slices.Sorted(maps.Keys(p)) {
		if b := p[n]; b.state == 1 {
			l = append(l, api.Cell{N: n, State: 1, Data: string(b.bytes[:])})
		} else {
			l = append(l, api.Cell{N: n, State: b.state})
		}
	}
	return l
}

// at is one byte.
func (p picture) at(byte uint64) byte { return p[byte/32].bytes[byte%32] }

// read are so many bytes from one on.
func (p picture) read(from uint64, many int) string {
	var b []byte
	for i := range many {
		b = append(b, p.at(from+uint64(i)))
	}
	return string(b)
}

// write is a picture with a text written from a byte on.
func (p picture) write(from uint64, text string) picture {
	then := maps.Clone(p)
	for i := range len(text) {
		byte := from + uint64(i)
		b := then[byte/32]
		b.state = 1
		b.bytes[byte%32] = text[i]
		then[byte/32] = b
	}
	return then
}

// places are the places of a span's bytes, by their blocks.
func places(s api.Span) map[uint64][]uint64 {
	m := map[uint64][]uint64{}
	for i := range s.Len {
		byte := s.From + i
		m[byte/32] = append(m[byte/32], byte%32)
	}
	return m
}

// less is a picture with a span discarded or zeroed: a block that is in the span is as whole tells.
func (p picture) less(s api.Span, whole func(then picture, n uint64)) picture {
	then := maps.Clone(p)
	for n, at := range places(s) {
		b := then[n]
		if len(at) == 32 {
			whole(then, n)
		} else if b.state == 1 {
			for _, i := range at {
				b.bytes[i] = 0
			}
			then[n] = b
		}
	}
	return then
}

func (p picture) discard(s api.Span) picture {
	return p.less(s, func(then picture, n uint64) { delete(then, n) })
}

func (p picture) zero(s api.Span) picture {
	return p.less(s, func(then picture, n uint64) {
		if then[n].state == 1 {
			then[n] = block{state: 2}
		}
	})
}

func (p picture) reserve(s api.Span) picture {
	then := maps.Clone(p)
	for n := range places(s) {
		if then[n].state == 0 {
			then[n] = block{state: 2}
		}
	}
	return then
}

// runs are a picture's runs: a run for each block, and those joined that touch in one state.
func (p picture) runs() []api.Run {
	var l []api.Run
	for _, n := range slices.Sorted(maps.Keys(p)) {
		l = append(l, api.Run{From: n, Len: 1, State: p[n].state})
	}
	for i := len(l) - 1; i > 0; i-- {
		if l[i-1].From+1 == l[i].From && l[i-1].State == l[i].State {
			l[i-1].Len += l[i].Len
			l = slices.Delete(l, i, i+1)
		}
	}
	return l
}

// rightly tells, by the chapter's words, whether cells may be.
func rightly(l []api.Cell) bool {
	for i, c := range l {
		data := c.State == 1 && len(c.Data) == 32
		reserved := c.State == 2 && len(c.Data) == 0
		if !data && !reserved || c.N/blocks > 0 {
			return false
		}
		for _, ahead := range l[:i] {
			if ahead.N >= c.N {
				return false
			}
		}
		if i == 64 {
			return false
		}
	}
	return true
}

// why is the error of a span, in numbers of any size: of cells that may be.
func why(s api.Span) api.Errno {
	if s.Len < 1 || s.Len > 224 {
		return api.ErrSize
	}
	end := new(big.Int).Add(new(big.Int).SetUint64(s.From), new(big.Int).SetUint64(s.Len))
	if end.Cmp(new(big.Int).Lsh(big.NewInt(1), 64)) > 0 {
		return api.ErrRange
	}
	return api.OK
}

// room tells whether there may be so many cells then.
func room(before, then, quota int) bool {
	if then <= before {
		return true
	}
	return then <= quota && then <= 64
}

// same tells whether two lists are the same, cell by cell, thing by thing.
func same(a, b []api.Cell) bool {
	if len(a) != len(b) {
		return false
	}
	for i := range a {
		if a[i].N != b[i].N || a[i].State != b[i].State || !bytes.Equal([]byte(a[i].Data), []byte(b[i].Data)) {
			return false
		}
	}
	return true
}

// show is a list of cells as text, for what a test tells.
func show(l []api.Cell) string {
	s := fmt.Sprintf("%v cells:", len(l))
	for _, c := range l {
		if len(s) > 500 {
			return s + " .."
		}
		s += fmt.Sprintf(" %v in %v %q", c.N, c.State, c.Data)
	}
	return s
}

// Behind the end of each list that is handed in stand these: a call changes neither them nor the list.
var behind = []api.Cell{{N: 1, State: 1, Data: "behind"}, {N: 7, State: 2}, {N: top, State: -5, Data: "the end"}}

// asked are a call's cells, by a list with others behind its end, which is held not to be changed, nor to be shared with the answer.
func asked(t *testing.T, name string, l []api.Cell, call func(l []api.Cell) ([]api.Cell, api.Errno)) ([]api.Cell, api.Errno) {
	t.Helper()
	memory := slices.Concat(l, behind)
	got, e := call(memory[:len(l)])
	if !same(memory, slices.Concat(l, behind)) {
		t.Errorf("%v changed cells: %v", name, show(memory))
	}
	kept := slices.Clone(got)
	for i := range memory {
		memory[i] = api.Cell{N: 3, State: 3, Data: "other"}
	}
	if !same(got, kept) {
		t.Errorf("%v's answer is its argument's memory", name)
	}
	memory = slices.Concat(l, behind)
	again, _ := call(memory[:len(l)])
	clear(got[:cap(got)])
	if !same(memory, slices.Concat(l, behind)) || !same(again, kept) {
		t.Errorf("what is written over %v's answer changes another thing", name)
	}
	return kept, e
}

// checkThen holds what a call answers against a picture.
func checkThen(t *testing.T, name string, l []api.Cell, want picture, call func(l []api.Cell) ([]api.Cell, api.Errno)) {
	t.Helper()
	got, e := asked(t, name, l, call)
	if !same(got, want.cells()) || e != api.OK {
		t.Errorf("%v of %v = %v, %v, want %v", name, show(l), show(got), e, show(want.cells()))
	}
	if !model.Right(got) {
		t.Errorf("%v of %v = %v, which may not be", name, show(l), show(got))
	}
}

// checkIs holds that a call tells an error, and nothing beside it.
func checkIs(t *testing.T, name string, l []api.Cell, want api.Errno, call func(l []api.Cell) ([]api.Cell, api.Errno)) {
	t.Helper()
	if got, e := asked(t, name, l, call); len(got) != 0 || e != want {
		t.Errorf("%v of %v = %v, %v, want %v", name, show(l), show(got), e, want)
	}
}

// quotas are those at each edge, of as many cells as there are and of as many as there would be.
func quotas(before, then int) []int {
	return []int{math.MinInt, -1 << 32, -1, 0, 1, before - 1, before, before + 1, then - 1, then, then + 1, 63, 64, 65, 1 << 32, math.MaxInt}
}

// checkGrown holds P20.3 with each quota.
func checkGrown(t *testing.T, name string, l []api.Cell, want picture, call func(quota int) func(l []api.Cell) ([]api.Cell, api.Errno)) {
	t.Helper()
	for _, quota := range quotas(len(l), len(want)) {
		named := fmt.Sprintf("%v with quota %v", name, quota)
		if room(len(l), len(want), quota) {
			checkThen(t, named, l, want, call(quota))
		} else {
			checkIs(t, named, l, api.ErrSpace, call(quota))
		}
	}
}

func writer(from uint64, data string) func(quota int) func(l []api.Cell) ([]api.Cell, api.Errno) {
	return func(quota int) func(l []api.Cell) ([]api.Cell, api.Errno) {
		return func(l []api.Cell) ([]api.Cell, api.Errno) { return model.Write(l, quota, from, data) }
	}
}

func reserver(s api.Span) func(quota int) func(l []api.Cell) ([]api.Cell, api.Errno) {
	return func(quota int) func(l []api.Cell) ([]api.Cell, api.Errno) {
		return func(l []api.Cell) ([]api.Cell, api.Errno) { return model.Reserve(l, quota, s) }
	}
}

func discarder(s api.Span) func(l []api.Cell) ([]api.Cell, api.Errno) {
	return func(l []api.Cell) ([]api.Cell, api.Errno) { return model.Discard(l, s) }
}

func zeroer(s api.Span) func(l []api.Cell) ([]api.Cell, api.Errno) {
	return func(l []api.Cell) ([]api.Cell, api.Errno) { return model.Zero(l, s) }
}

// checkAll holds all calls of cells that may be, and a span with a text for each of its bytes.
func checkAll(t *testing.T, l []api.Cell, from uint64, text string) {
	t.Helper()
	s := api.Span{From: from, Len: uint64(len(text))}
	p := pictureOf(l)
	name := fmt.Sprintf("of %v bytes from %v", s.Len, s.From)
	checkReadTells(t, l, s, p.read(from, len(text)))
	checkGrown(t, "Write "+name, l, p.write(from, text), writer(from, text))
	checkThen(t, "Discard "+name, l, p.discard(s), discarder(s))
	checkThen(t, "Zero "+name, l, p.zero(s), zeroer(s))
	checkGrown(t, "Reserve "+name, l, p.reserve(s), reserver(s))
	if t.Failed() {
		t.FailNow()
	}
}

func checkReadTells(t *testing.T, l []api.Cell, s api.Span, want string) {
	t.Helper()
	memory := slices.Concat(l, behind)
	if got, e := model.Read(memory[:len(l)], s); got != want || e != api.OK {
		t.Errorf("Read(%v, %v) = %q, %v, want %q", show(l), s, got, e, want)
	}
	if !same(memory, slices.Concat(l, behind)) {
		t.Errorf("Read changed cells: %v", show(memory))
	}
}

// checkAllAre holds that Read and each change tell an error, whatever the quota, and nothing beside it.
func checkAllAre(t *testing.T, l []api.Cell, s api.Span, want api.Errno) {
	t.Helper()
	name := fmt.Sprintf("of %v bytes from %v", s.Len, s.From)
	if got, e := model.Read(l, s); got != "" || e != want {
		t.Errorf("Read(%v, %v) = %q, %v, want %v", show(l), s, got, e, want)
	}
	checkIs(t, "Discard "+name, l, want, discarder(s))
	checkIs(t, "Zero "+name, l, want, zeroer(s))
	for _, quota := range quotas(len(l), len(l)) {
		checkIs(t, "Reserve "+name, l, want, reserver(s)(quota))
		if s.Len < 1<<17 {
			checkIs(t, "Write "+name, l, want, writer(s.From, strings.Repeat("w", int(s.Len)))(quota))
		}
	}
}

// drawing draws a text, of which some bytes are 0.
func drawing(r *rand.Rand, many int) string {
	b := make([]byte, many)
	for i := range b {
		b[i] = byte(r.Intn(256) * min(1, r.Intn(9)))
	}
	return string(b)
}

// pictured are cells by a text with a byte for each block from one on: . of a hole, d of data, r of a reserved block.
func pictured(r *rand.Rand, from uint64, states string) []api.Cell {
	var l []api.Cell
	for i, state := range []byte(states) {
		n := from + uint64(i)
		switch state {
		case 'd':
			l = append(l, api.Cell{N: n, State: 1, Data: drawing(r, 32)})
		case 'r':
			l = append(l, api.Cell{N: n, State: 2})
		}
	}
	return l
}

// pictures has see each text of so many states.
func pictures(many int, ahead string, see func(states string)) {
	if len(ahead) == many {
		see(ahead)
		return
	}
	for _, state := range ".dr" {
		pictures(many, ahead+string(state), see)
	}
}

// P20.2 and P20.3: all spans of the bytes of one block and of two, in all states, where the bytes begin, where they end, and between.
func TestEachSpanOfTwoBlocks(t *testing.T) {
	r := rand.New(rand.NewSource(1))
	froms := []uint64{0, 1 << 40, blocks - 2}
	many := 0
	pictures(2, "", func(states string) {
		for from := range 64 {
			for end := from + 1; end <= 64; end++ {
				first := froms[many%3]
				many++
				checkAll(t, pictured(r, first, states), 32*first+uint64(from), drawing(r, end-from))
			}
		}
	})
}

// The same of three blocks and of four, from and to some places of each, with blocks ahead of these and behind them, which stay.
func TestSpansOfThreeBlocksAndFour(t *testing.T) {
	r := rand.New(rand.NewSource(2))
	for _, many := range []int{3, 4} {
		pictures(many, "", func(states string) {
			first := []uint64{1, 1 << 40, blocks - uint64(many) - 1}[r.Intn(3)]
			l := pictured(r, first-1, "d"+states+"d")
			for _, from := range []int{0, 1, 16, 31} {
				for _, end := range []int{1, 2, 17, 31, 32} {
					checkAll(t, l, 32*first+uint64(from), drawing(r, 32*(many-1)+end-from))
				}
			}
		})
	}
}

// Of up to eight blocks, as many as a span may meet, and the longest spans that there may be.
func TestSpansOfManyBlocks(t *testing.T) {
	r := rand.New(rand.NewSource(3))
	for _, states := range []string{"..........", "dddddddddd", "rrrrrrrrrr", "d.d.d.d.d.", ".r.r.r.r.r", "rdrdrdrdrd", "dr.dr.dr.d", ".dd.rr.ddr", "r........d", "....d....."} {
		for _, first := range []uint64{0, 1 << 32, blocks - 10} {
			l := pictured(r, first, states)
			for from := range 65 {
				checkAll(t, l, 32*first+uint64(from), drawing(r, 224))
			}
			for _, many := range []int{127, 128, 129, 159, 160, 161, 191, 192, 193, 194, 222, 223} {
				for _, from := range []int{0, 1, 30, 31, 33, 320 - many} {
					checkAll(t, l, 32*first+uint64(from), drawing(r, many))
				}
			}
		}
	}
}

// P20.4: what was written is read, what was discarded or zeroed reads 0, what was reserved reads as it did; each other byte is as it was; discarding and zeroing make no cell.
func TestWhatIsReadThen(t *testing.T) {
	r := rand.New(rand.NewSource(4))
	for range 4000 {
		states := strings.Map(func(rune) rune { return rune(".dr"[r.Intn(3)]) }, strings.Repeat(" ", 9))
		first := []uint64{0, 77, blocks - 9}[r.Intn(3)]
		l := pictured(r, first, states)
		many := 1 + r.Intn(224)
		s := api.Span{From: 32*first + uint64(r.Intn(289-many)), Len: uint64(many)}
		data := drawing(r, many)
		before := readWhole(t, l, first)
		at := int(s.From - 32*first)
		with := func(text string) string { return before[:at] + text + before[at+many:] }
		nothing := strings.Repeat("\x00", many)

		written, e := model.Write(l, 64, s.From, data)
		checkReads(t, "Write", written, e, first, with(data))
		discarded, e := model.Discard(l, s)
		checkReads(t, "Discard", discarded, e, first, with(nothing))
		zeroed, e := model.Zero(l, s)
		checkReads(t, "Zero", zeroed, e, first, with(nothing))
		reserved, e := model.Reserve(l, 64, s)
		checkReads(t, "Reserve", reserved, e, first, before)

		checkNoneIsNew(t, "Discard", l, discarded)
		checkNoneIsNew(t, "Zero", l, zeroed)
		if len(zeroed) != len(l) {
			t.Errorf("Zero of %v = %v", show(l), show(zeroed))
		}
		if t.Failed() {
			t.FailNow()
		}
	}
}

// readWhole are the bytes of nine blocks from one on, read in two.
func readWhole(t *testing.T, l []api.Cell, first uint64) string {
	t.Helper()
	a, e := model.Read(l, api.Span{From: 32 * first, Len: 200})
	b, f := model.Read(l, api.Span{From: 32*first + 200, Len: 88})
	if e != api.OK || f != api.OK {
		t.Errorf("Read of %v: %v, %v", show(l), e, f)
	}
	return a + b
}

func checkReads(t *testing.T, name string, l []api.Cell, e api.Errno, first uint64, want string) {
	t.Helper()
	if e != api.OK || !model.Right(l) {
		t.Errorf("%v: %v, %v", name, show(l), e)
	}
	if got := readWhole(t, l, first); got != want {
		t.Errorf("%v: %q is read, want %q", name, got, want)
	}
}

// checkNoneIsNew holds that there is no cell of a block that had none.
func checkNoneIsNew(t *testing.T, name string, l, then []api.Cell) {
	t.Helper()
	for _, c := range then {
		if !slices.ContainsFunc(l, func(was api.Cell) bool { return was.N == c.N }) {
			t.Errorf("%v makes a cell of %v", name, c.N)
		}
	}
}

// Changes one behind the other, as long as there is room: up to 64 cells, and less with a quota. All bytes are as they were changed last.
func TestOneBehindTheOther(t *testing.T) {
	for seed := range int64(40) {
		r := rand.New(rand.NewSource(seed))
		many := []int{4, 40, 75, 200}[r.Intn(4)]
		first := []uint64{0, 1 << 58, blocks - uint64(many)}[r.Intn(3)]
		quota := []int{0, 3, 30, 63, 64, 65, math.MaxInt}[r.Intn(7)]
		p := picture{}
		var l []api.Cell
		for range 500 {
			text := drawing(r, 1+r.Intn(224))
			if len(text) > 32*many {
				text = text[:32*many]
			}
			s := api.Span{From: 32*first + uint64(r.Intn(32*many-len(text)+1)), Len: uint64(len(text))}
			checkReadTells(t, l, s, p.read(s.From, len(text)))
			p, l = oneOf(t, r.Intn(7), p, l, quota, s, text)
			if t.Failed() {
				t.Fatalf("seed %v", seed)
			}
		}
	}
}

// oneOf does one of the changes of cells, and holds it against a picture: both then; as they were, if there is no room.
func oneOf(t *testing.T, which int, p picture, l []api.Cell, quota int, s api.Span, text string) (picture, []api.Cell) {
	t.Helper()
	var want picture
	var got []api.Cell
	var e api.Errno
	switch which {
	case 0:
		want = p.discard(s)
		got, e = model.Discard(l, s)
	case 1:
		want = p.zero(s)
		got, e = model.Zero(l, s)
	case 2, 3:
		want = p.reserve(s)
		got, e = model.Reserve(l, quota, s)
	default:
		want = p.write(s.From, text)
		got, e = model.Write(l, quota, s.From, text)
	}
	if which > 1 && !room(len(l), len(want), quota) {
		if len(got) != 0 || e != api.ErrSpace {
			t.Errorf("change %v of %v, %v with quota %v: %v, %v", which, show(l), s, quota, show(got), e)
		}
		return p, l
	}
	if !same(got, want.cells()) || e != api.OK || !model.Right(got) {
		t.Errorf("change %v of %v, %v with quota %v: %v, %v, want %v", which, show(l), s, quota, show(got), e, show(want.cells()))
	}
	checkMap(t, got)
	return want, got
}

// checkMap holds Map of cells that may be.
func checkMap(t *testing.T, l []api.Cell) {
	t.Helper()
	memory := slices.Concat(l, behind)
	want := pictureOf(l).runs()
	got, e := model.Map(memory[:len(l)])
	if !slices.Equal(got, want) || e != api.OK || !extent.Right(got) {
		t.Errorf("Map(%v) = %v, %v, want %v", show(l), got, e, want)
	}
	again, _ := model.Map(memory[:len(l)])
	clear(got[:cap(got)])
	if !slices.Equal(again, want) {
		t.Errorf("what is written over Map's answer changes another one: %v", again)
	}
	if !same(memory, slices.Concat(l, behind)) {
		t.Errorf("Map changed cells: %v", show(memory))
	}
}

// Map of each eight blocks, in all states.
func TestMapOfEachEightBlocks(t *testing.T) {
	r := rand.New(rand.NewSource(5))
	pictures(8, "", func(states string) {
		l := pictured(r, []uint64{0, 1 << 33, blocks - 8}[r.Intn(3)], states)
		checkMap(t, l)
		if t.Failed() {
			t.FailNow()
		}
	})
}

// lists has see each list of so many of some cells.
func lists(of []api.Cell, many int, ahead []api.Cell, see func(l []api.Cell)) {
	if many == 0 {
		see(ahead)
		return
	}
	for _, c := range of {
		lists(of, many-1, append(slices.Clone(ahead), c), see)
	}
}

// Lists of up to three cells, of those that may be and of those that may not.
func TestEachShortList(t *testing.T) {
	see := func(l []api.Cell) {
		if got, want := model.Right(l), rightly(l); got != want {
			t.Fatalf("Right(%v) = %v, want %v", show(l), got, want)
		}
		if !rightly(l) && len(l) < 3 {
			checkIsArg(t, l)
		}
	}
	some := func(numbers []uint64, states, sizes []int) []api.Cell {
		var l []api.Cell
		for _, n := range numbers {
			for _, state := range states {
				for _, size := range sizes {
					l = append(l, api.Cell{N: n, State: state, Data: strings.Repeat("b", size)})
				}
			}
		}
		return l
	}
	lists(some([]uint64{0, 1, blocks - 1, blocks, blocks + 1, 1 << 63, top}, []int{math.MinInt, -1, 0, 1, 2, 3, 4, 1<<32 + 1}, []int{0, 1, 31, 32, 33, 64}), 1, nil, see)
	lists(some([]uint64{0, 1, 2, blocks - 1, blocks}, []int{0, 1, 2}, []int{0, 32}), 2, nil, see)
	lists(some([]uint64{0, 1, 2, 3, 4}, []int{1, 2}, []int{0, 32}), 3, nil, see)
}

// checkIsArg holds that cells that may not be are told by each call, whatever else is wrong, and nothing beside that.
func checkIsArg(t *testing.T, l []api.Cell) {
	t.Helper()
	if model.Right(l) {
		t.Errorf("Right(%v) = true", show(l))
	}
	if runs, e := model.Map(l); len(runs) != 0 || e != api.ErrArg {
		t.Errorf("Map(%v) = %v, %v, want ErrArg", show(l), runs, e)
	}
	for _, s := range []api.Span{{}, {From: 0, Len: 1}, {From: 5, Len: 224}, {From: 0, Len: 225}, {From: top}, {From: top, Len: 2}, {From: top, Len: top}} {
		if got, e := model.Read(l, s); got != "" || e != api.ErrArg {
			t.Errorf("Read(%v, %v) = %q, %v, want ErrArg", show(l), s, got, e)
		}
		checkIs(t, "Discard", l, api.ErrArg, discarder(s))
		checkIs(t, "Zero", l, api.ErrArg, zeroer(s))
		for _, quota := range []int{-1, 0, 64, math.MaxInt} {
			checkIs(t, "Reserve", l, api.ErrArg, reserver(s)(quota))
			if s.Len < 1<<17 {
				checkIs(t, "Write", l, api.ErrArg, writer(s.From, strings.Repeat("w", int(s.Len)))(quota))
			}
		}
	}
}

// P1: no call panics at any arguments, and all are as told here.
func FuzzModel(f *testing.F) {
	whole := strings.Repeat("0123456789abcdef", 2)
	f.Add(uint64(0), 1, whole, uint64(1), 2, "", 2, uint64(31), uint64(4), "ab")
	f.Add(blocks-2, 2, "", blocks-1, 1, whole, 64, top-31, uint64(32), whole)
	f.Add(blocks-1, 1, whole, blocks, 1, whole, 0, top, uint64(2), "ab")
	f.Add(uint64(5), 0, "", uint64(5), 3, "a", -1, uint64(0), uint64(0), "")
	f.Add(uint64(9), 1, whole, uint64(12), 1, whole, 3, uint64(300), uint64(224), strings.Repeat(whole, 7))
	f.Add(uint64(9), 1, whole, uint64(12), 1, whole, 3, uint64(300), top, strings.Repeat(whole, 8))
	f.Fuzz(func(t *testing.T, n1 uint64, state1 int, data1 string, n2 uint64, state2 int, data2 string, quota int, from, many uint64, text string) {
		both := []api.Cell{{N: n1, State: state1, Data: data1}, {N: n2, State: state2, Data: data2}}
		for end := range len(both) + 1 {
			l := both[:end]
			if model.Right(l) != rightly(l) {
				t.Errorf("Right(%v) = %v", show(l), !rightly(l))
			}
			if model.Like(l, both) != same(l, both) {
				t.Errorf("Like(%v, %v) = %v", show(l), show(both), !same(l, both))
			}
			if !rightly(l) {
				checkIsArg(t, l)
				continue
			}
			checkMap(t, l)
			if s := (api.Span{From: from, Len: many}); why(s) != api.OK {
				checkAllAre(t, l, s, why(s))
			}
			if s := (api.Span{From: from, Len: uint64(len(text))}); why(s) != api.OK {
				checkAllAre(t, l, s, why(s))
				continue
			}
			checkAll(t, l, from, text)
			s := api.Span{From: from, Len: uint64(len(text))}
			for which := range 5 {
				oneOf(t, which, pictureOf(l), l, quota, s, text)
			}
		}
	})
}
