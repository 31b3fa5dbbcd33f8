package skip_test

import (
	"math"
	"slices"
	"strconv"
	"testing"

	"saltus/api"
	"saltus/skip"
)

// key is the key where no other is asked for.
const key = "a key"

// item is an item of a number, and of a text that tells the number.
func item(n uint64) api.Item { return api.Item{Key: n, Val: "of " + strconv.FormatUint(n, 10)} }

// items are items of some numbers, in order.
func items(numbers ...uint64) []api.Item {
	var l []api.Item
	for _, n := range numbers {
		l = append(l, item(n))
	}
	return l
}

// rising is a list of so many items, the first one of a number, each next one's more by a step.
func rising(many int, first, step uint64) []api.Item {
	l := make([]api.Item, many)
	for i := range l {
		l[i] = item(first + uint64(i)*step)
	}
	return l
}

// with is a list with another Val at a place.
func with(l []api.Item, at int, val string) []api.Item {
	l = slices.Clone(l)
	l[at].Val = val
	return l
}

// hop is a hop: on a level, to a place.
func hop(level, at int) api.Hop { return api.Hop{Level: level, At: at} }

// heights are nine numbers and their heights by key, told beside the program, by another one: each height is there, and none of height 8 is the first.
var heights = []struct {
	n      uint64
	height int
}{{0, 5}, {1, 2}, {3, 7}, {5, 3}, {9, 1}, {18, 4}, {65, 6}, {130, 8}, {146, 8}}

// nine is the list of these.
func nine() []api.Item {
	var l []api.Item
	for _, x := range heights {
		l = append(l, item(x.n))
	}
	return l
}

// The chapter's example.
func TestExample(t *testing.T) {
	l := items(3, 5, 9)
	for _, key := range []string{"", "a key", "another key", "\xff\x80\xc3", text(64), text(65)} {
		at, hops, e := skip.Find(key, l, 6)
		if at != 1 || e != api.OK || l[at].Key != 5 || hops[len(hops)-1].At != 1 {
			t.Errorf("Find by %.20q of 6 in 3, 5, 9 = %v, %v, %v, want the place of 5", key, at, hops, e)
		}
	}
}

// P16.1

func TestListsThatMayBe(t *testing.T) {
	for what, l := range map[string][]api.Item{
		"a nil list":                       nil,
		"an empty list":                    {},
		"one item":                         items(7),
		"one item of 0":                    items(0),
		"one item of the greatest":         items(math.MaxUint64),
		"nothing but an item's zero value": {{}},
		"two that rise":                    items(6, 7),
		"the first and the greatest":       items(0, math.MaxUint64),
		"about 2^63":                       items(1<<63-1, 1<<63, 1<<63+1),
		"about 2^32":                       items(1<<32-1, 1<<32, 1<<32+1),
		"the same text twice":              {{Key: 1, Val: "a"}, {Key: 2, Val: "a"}},
		"texts that fall":                  {{Key: 1, Val: "b"}, {Key: 2, Val: "a"}, {Key: 3}},
		"63 items":                         rising(63, 0, 1),
		"64 items":                         rising(64, 0, 1),
		"64 items up to the greatest":      rising(64, math.MaxUint64-63, 1),
		"64 items far apart":               rising(64, 0, 1<<58),
		"an empty text":                    with(items(1, 2, 3), 0, ""),
		"an empty text, the last one":      with(items(1, 2, 3), 2, ""),
		"a text of 64 bytes":               with(items(1, 2, 3), 0, text(64)),
		"a text of 64 bytes, the last one": with(items(1, 2, 3), 2, text(64)),
		"the only text, of 64 bytes":       with(items(1), 0, text(64)),
		"64 bytes that are no UTF-8":       with(items(1), 0, "\xff\x00"+text(62)),
		"64 items, the last of 64 bytes":   with(rising(64, 5, 3), 63, text(64)),
	} {
		if !skip.Right(l) {
			t.Errorf("%v: Right = false", what)
		}
		if !mayBe(l) {
			t.Errorf("%v: the model says that it may not be", what)
		}
	}
}

// wrongs are lists that may not be, each for one reason alone, by that reason.
func wrongs() map[string][]api.Item {
	l := map[string][]api.Item{
		"the same number twice":              items(7, 7),
		"0 twice":                            items(0, 0),
		"the greatest twice":                 items(math.MaxUint64, math.MaxUint64),
		"the same number with another text":  {{Key: 7, Val: "a"}, {Key: 7, Val: "b"}},
		"the first number twice":             items(1, 1, 2, 3),
		"a number between twice":             items(1, 2, 2, 3),
		"the last number twice":              items(1, 2, 3, 3),
		"the first number again at the end":  items(1, 2, 3, 1),
		"two that fall":                      items(8, 7),
		"the greatest ahead of 0":            items(math.MaxUint64, 0),
		"2^63 ahead of 2^63 less 1":          items(1<<63, 1<<63-1),
		"2^32 ahead of 1":                    items(1<<32, 1),
		"all fall":                           items(4, 3, 2, 1),
		"the first two fall":                 items(2, 1, 3, 4),
		"two between fall":                   items(1, 3, 2, 4),
		"the last two fall":                  items(1, 2, 4, 3),
		"numbers that go round the greatest": rising(3, math.MaxUint64-1, 1),
		"64 items, the last two the same":    append(rising(63, 0, 1), item(62)),
		"64 items, the last two fall":        append(rising(63, 0, 1), item(61)),
		"64 items, all the same":             rising(64, 5, 0),
		"65 items":                           rising(65, 0, 1),
		"65 items up to the greatest":        rising(65, math.MaxUint64-64, 1),
		"66 items":                           rising(66, 0, 2),
		"128 items":                          rising(128, 0, 1),
		"256 items":                          rising(256, 0, 1),
		"320 items":                          rising(320, 0, 1),
		"65600 items":                        rising(65600, 0, 1),
	}
	for _, many := range []int{65, 66, 128, 256, 320, 5000, 1 << 16} {
		long := " of " + strconv.Itoa(many) + " bytes"
		l["one text"+long] = with(items(1), 0, text(many))
		l["the first text"+long] = with(items(1, 2, 3), 0, text(many))
		l["a text between"+long] = with(items(1, 2, 3), 1, text(many))
		l["the last text"+long] = with(items(1, 2, 3), 2, text(many))
		l["64 items, the last text"+long] = with(rising(64, 0, 1), 63, text(many))
	}
	return l
}

func TestListsThatMayNotBe(t *testing.T) {
	for what, l := range wrongs() {
		if skip.Right(l) {
			t.Errorf("%v: Right = true", what)
		}
		if mayBe(l) {
			t.Errorf("%v: the model says that it may be", what)
		}
		checkIsArg(t, l)
	}
}

// Each place of a list of 64 items, spoilt by itself.
func TestEachPlaceOfAFullList(t *testing.T) {
	right := rising(64, 10, 10)
	for at := range right {
		if l := with(right, at, text(64)); !skip.Right(l) {
			t.Errorf("64 bytes at %v: Right = false", at)
		}
		if l := with(right, at, text(65)); skip.Right(l) {
			t.Errorf("65 bytes at %v: Right = true", at)
		}
		for off, may := range map[uint64]bool{9: true, 10: at == 63, 11: at == 63} {
			l := slices.Clone(right)
			l[at].Key += off
			if got := skip.Right(l); got != may {
				t.Errorf("%v more at %v: Right = %v", off, at, got)
			}
		}
	}
}

func TestLike(t *testing.T) {
	for what, x := range map[string]struct {
		a, b []api.Item
		want bool
	}{
		"nil lists":                             {nil, nil, true},
		"a nil one and an empty one":            {nil, []api.Item{}, true},
		"empty ones":                            {[]api.Item{}, []api.Item{}, true},
		"one item":                              {items(3), items(3), true},
		"some":                                  {items(3, 5, 9), items(3, 5, 9), true},
		"64":                                    {rising(64, 0, 1), rising(64, 0, 1), true},
		"a nil one, and an item's zero value":   {nil, []api.Item{{}}, false},
		"an empty one, and one with an item":    {[]api.Item{}, items(3), false},
		"an item more, the first one":           {items(5, 9), items(3, 5, 9), false},
		"an item more, between":                 {items(3, 9), items(3, 5, 9), false},
		"an item more, the last one":            {items(3, 5), items(3, 5, 9), false},
		"an item more, its zero value":          {items(3), append(items(3), api.Item{}), false},
		"a Key, the first one":                  {items(3, 5, 9), items(2, 5, 9), false},
		"a Key between":                         {items(3, 5, 9), items(3, 6, 9), false},
		"a Key, the last one":                   {items(3, 5, 9), items(3, 5, 10), false},
		"a Key alone":                           {[]api.Item{{Key: 3, Val: "a"}}, []api.Item{{Key: 4, Val: "a"}}, false},
		"a Key by 2^32":                         {[]api.Item{{Key: 3}}, []api.Item{{Key: 1<<32 + 3}}, false},
		"a Key by 2^63":                         {[]api.Item{{Key: 3}}, []api.Item{{Key: 1<<63 + 3}}, false},
		"a Val, the first one":                  {items(3, 5, 9), with(items(3, 5, 9), 0, "a"), false},
		"a Val between":                         {items(3, 5, 9), with(items(3, 5, 9), 1, "a"), false},
		"a Val, the last one":                   {items(3, 5, 9), with(items(3, 5, 9), 2, "a"), false},
		"a Val, by a byte 0":                    {with(items(3), 0, "a"), with(items(3), 0, "a\x00"), false},
		"a Val, empty":                          {with(items(3), 0, ""), with(items(3), 0, "a"), false},
		"a Val, by its last byte of 64":         {with(items(3), 0, text(63)+"a"), with(items(3), 0, text(64)), false},
		"the order":                             {items(3, 5), items(5, 3), false},
		"nothing, but neither may be":           {items(5, 5), items(5, 5), true},
		"nothing, but Vals are too long":        {with(items(3), 0, text(65)), with(items(3), 0, text(65)), true},
		"nothing, but there are 65":             {rising(65, 0, 1), rising(65, 0, 1), true},
		"the 65th item":                         {rising(65, 0, 1), with(rising(65, 0, 1), 64, ""), false},
		"Vals that are changed over":            {[]api.Item{{Key: 3, Val: "a"}, {Key: 5, Val: "b"}}, []api.Item{{Key: 3, Val: "b"}, {Key: 5, Val: "a"}}, false},
		"a byte that goes over to the next Val": {[]api.Item{{Key: 3, Val: "ab"}, {Key: 5, Val: "c"}}, []api.Item{{Key: 3, Val: "a"}, {Key: 5, Val: "bc"}}, false},
	} {
		if got := skip.Like(x.a, x.b); got != x.want {
			t.Errorf("Like of two that differ in %v = %v", what, got)
		}
		if got := skip.Like(x.b, x.a); got != x.want {
			t.Errorf("Like of two that differ in %v, turned = %v", what, got)
		}
	}
}

// P16.2

func TestPutByHand(t *testing.T) {
	for what, x := range map[string]struct {
		l    []api.Item
		x    api.Item
		want []api.Item
	}{
		"into a nil list":                  {nil, item(7), items(7)},
		"into an empty list":               {[]api.Item{}, item(7), items(7)},
		"0 into a nil list":                {nil, api.Item{}, []api.Item{{}}},
		"the greatest into a nil list":     {nil, item(math.MaxUint64), items(math.MaxUint64)},
		"ahead of one":                     {items(7), item(6), items(6, 7)},
		"behind one":                       {items(7), item(8), items(7, 8)},
		"in place of the only one":         {[]api.Item{{Key: 7, Val: "a"}}, item(7), items(7)},
		"ahead of all":                     {items(3, 5, 9), item(2), items(2, 3, 5, 9)},
		"0 ahead of all":                   {items(3, 5, 9), item(0), items(0, 3, 5, 9)},
		"between the first two":            {items(3, 5, 9), item(4), items(3, 4, 5, 9)},
		"between the last two":             {items(3, 5, 9), item(6), items(3, 5, 6, 9)},
		"between the last two, at the end": {items(3, 5, 9), item(8), items(3, 5, 8, 9)},
		"behind all":                       {items(3, 5, 9), item(10), items(3, 5, 9, 10)},
		"the greatest behind all":          {items(3, 5, 9), item(math.MaxUint64), items(3, 5, 9, math.MaxUint64)},
		"2^63 between":                     {items(3, math.MaxUint64), item(1 << 63), items(3, 1<<63, math.MaxUint64)},
		"2^63 less 1 ahead of 2^63":        {items(1 << 63), item(1<<63 - 1), items(1<<63-1, 1<<63)},
		"in place of the first":            {with(items(3, 5, 9), 0, "a"), item(3), items(3, 5, 9)},
		"in place of one between":          {with(items(3, 5, 9), 1, "a"), item(5), items(3, 5, 9)},
		"in place of the last":             {with(items(3, 5, 9), 2, "a"), item(9), items(3, 5, 9)},
		"in place of itself":               {items(3, 5, 9), item(5), items(3, 5, 9)},
		"in place of one, empty":           {items(3, 5, 9), api.Item{Key: 5}, with(items(3, 5, 9), 1, "")},
		"in place of an empty one":         {with(items(3, 5, 9), 1, ""), item(5), items(3, 5, 9)},
		"64 bytes":                         {items(3), api.Item{Key: 5, Val: text(64)}, with(items(3, 5), 1, text(64))},
		"64 bytes in place of one":         {items(3), api.Item{Key: 3, Val: text(64)}, with(items(3), 0, text(64))},
		"bytes that are no UTF-8":          {items(3), api.Item{Key: 5, Val: "\xff\x00\xc0"}, with(items(3, 5), 1, "\xff\x00\xc0")},
		"the 64th, ahead":                  {rising(63, 1, 1), item(0), rising(64, 0, 1)},
		"the 64th, behind":                 {rising(63, 0, 1), item(63), rising(64, 0, 1)},
		"in place of the first of 64":      {with(rising(64, 0, 1), 0, "a"), item(0), rising(64, 0, 1)},
		"in place of the last of 64":       {with(rising(64, 0, 1), 63, "a"), item(63), rising(64, 0, 1)},
		"in place of one of 64":            {with(rising(64, 0, 1), 31, "a"), item(31), rising(64, 0, 1)},
		"in place of one of 63":            {with(rising(63, 0, 1), 62, "a"), item(62), rising(63, 0, 1)},
	} {
		if got, e := skip.Put(x.l, x.x); !same(got, x.want) || e != api.OK {
			t.Errorf("%v: Put of %v to %v = %v, %v, want %v", what, show([]api.Item{x.x}), show(x.l), show(got), e, show(x.want))
		}
		checkPut(t, x.l, x.x)
	}
}

func TestPutThatMayNotBe(t *testing.T) {
	full := rising(64, 10, 10)
	for what, x := range map[string]struct {
		l    []api.Item
		x    api.Item
		want api.Errno
	}{
		"65 bytes into a nil list":             {nil, api.Item{Key: 7, Val: text(65)}, api.ErrSize},
		"65 bytes into an empty list":          {[]api.Item{}, api.Item{Key: 7, Val: text(65)}, api.ErrSize},
		"65 bytes ahead":                       {items(7), api.Item{Key: 6, Val: text(65)}, api.ErrSize},
		"65 bytes behind":                      {items(7), api.Item{Key: 8, Val: text(65)}, api.ErrSize},
		"65 bytes in place of one":             {items(7), api.Item{Key: 7, Val: text(65)}, api.ErrSize},
		"128 bytes":                            {items(7), api.Item{Key: 8, Val: text(128)}, api.ErrSize},
		"256 bytes":                            {items(7), api.Item{Key: 8, Val: text(256)}, api.ErrSize},
		"2^16 bytes":                           {items(7), api.Item{Key: 8, Val: text(1 << 16)}, api.ErrSize},
		"ahead of 64":                          {full, item(9), api.ErrSpace},
		"0 ahead of 64":                        {full, item(0), api.ErrSpace},
		"between 64":                           {full, item(15), api.ErrSpace},
		"behind 64":                            {full, item(641), api.ErrSpace},
		"the greatest behind 64":               {full, item(math.MaxUint64), api.ErrSpace},
		"an empty Val to 64":                   {full, api.Item{Key: 11}, api.ErrSpace},
		"65 bytes to 64":                       {full, api.Item{Key: 11, Val: text(65)}, api.ErrSize},
		"65 bytes in place of one of 64":       {full, api.Item{Key: 10, Val: text(65)}, api.ErrSize},
		"into 65":                              {rising(65, 0, 1), item(100), api.ErrArg},
		"in place of one of 65":                {rising(65, 0, 1), item(64), api.ErrArg},
		"65 bytes into 65":                     {rising(65, 0, 1), api.Item{Key: 100, Val: text(65)}, api.ErrArg},
		"into one that falls":                  {items(9, 5), item(7), api.ErrArg},
		"65 bytes into one that falls":         {items(9, 5), api.Item{Key: 7, Val: text(65)}, api.ErrArg},
		"in place of one that stands twice":    {items(5, 5), item(5), api.ErrArg},
		"in place of the one that is too long": {with(items(5), 0, text(65)), item(5), api.ErrArg},
		"to 64 of which two fall":              {append(items(9), rising(63, 8, 1)...), item(200), api.ErrArg},
		"65 bytes to 64 of which two fall":     {append(items(9), rising(63, 8, 1)...), api.Item{Key: 200, Val: text(65)}, api.ErrArg},
	} {
		if got, e := skip.Put(x.l, x.x); len(got) != 0 || e != x.want {
			t.Errorf("%v: Put of %v to %v = %v, %v, want %v", what, show([]api.Item{x.x}), show(x.l), show(got), e, x.want)
		}
	}
}

func TestDropByHand(t *testing.T) {
	for what, x := range map[string]struct {
		l    []api.Item
		k    uint64
		want []api.Item
	}{
		"the only one":        {items(7), 7, nil},
		"the only one, 0":     {items(0), 0, nil},
		"the greatest alone":  {items(math.MaxUint64), math.MaxUint64, nil},
		"the first of two":    {items(7, 8), 7, items(8)},
		"the last of two":     {items(7, 8), 8, items(7)},
		"the first":           {items(3, 5, 9), 3, items(5, 9)},
		"one between":         {items(3, 5, 9), 5, items(3, 9)},
		"the last":            {items(3, 5, 9), 9, items(3, 5)},
		"the first, 0":        {items(0, 5, 9), 0, items(5, 9)},
		"the greatest":        {items(0, 5, math.MaxUint64), math.MaxUint64, items(0, 5)},
		"the first of 64":     {rising(64, 0, 1), 0, rising(63, 1, 1)},
		"the last of 64":      {rising(64, 0, 1), 63, rising(63, 0, 1)},
		"one of 64":           {rising(64, 0, 1), 31, append(rising(31, 0, 1), rising(32, 32, 1)...)},
		"one with its Val":    {[]api.Item{{Key: 1, Val: "a"}, {Key: 2, Val: "b"}, {Key: 3, Val: "c"}}, 2, []api.Item{{Key: 1, Val: "a"}, {Key: 3, Val: "c"}}},
		"one with 64 bytes":   {with(items(3, 5), 0, text(64)), 3, items(5)},
		"one with none":       {with(items(3, 5), 0, ""), 3, items(5)},
		"one like the others": {[]api.Item{{Key: 1, Val: "a"}, {Key: 2, Val: "a"}}, 1, []api.Item{{Key: 2, Val: "a"}}},
	} {
		if got, e := skip.Drop(x.l, x.k); !same(got, x.want) || e != api.OK {
			t.Errorf("%v: Drop of %v from %v = %v, %v, want %v", what, x.k, show(x.l), show(got), e, show(x.want))
		}
		checkDrop(t, x.l, x.k)
	}
}

func TestDropThatMayNotBe(t *testing.T) {
	for what, x := range map[string]struct {
		l    []api.Item
		k    uint64
		want api.Errno
	}{
		"from a nil list":                    {nil, 0, api.ErrNone},
		"from an empty list":                 {[]api.Item{}, 0, api.ErrNone},
		"the greatest from a nil list":       {nil, math.MaxUint64, api.ErrNone},
		"less than all":                      {items(3, 5, 9), 2, api.ErrNone},
		"0":                                  {items(3, 5, 9), 0, api.ErrNone},
		"between the first two":              {items(3, 5, 9), 4, api.ErrNone},
		"between the last two":               {items(3, 5, 9), 6, api.ErrNone},
		"more than all":                      {items(3, 5, 9), 10, api.ErrNone},
		"the greatest":                       {items(3, 5, 9), math.MaxUint64, api.ErrNone},
		"a number less by 2^32":              {items(1<<32 + 3), 3, api.ErrNone},
		"a number more by 2^63":              {items(3), 1<<63 + 3, api.ErrNone},
		"from 64":                            {rising(64, 0, 2), 63, api.ErrNone},
		"from 65":                            {rising(65, 0, 1), 64, api.ErrArg},
		"none from 65":                       {rising(65, 0, 1), 65, api.ErrArg},
		"from one that falls":                {items(9, 5), 5, api.ErrArg},
		"none from one that falls":           {items(9, 5), 7, api.ErrArg},
		"one that stands twice":              {items(5, 5), 5, api.ErrArg},
		"the one that is too long":           {with(items(3, 5), 1, text(65)), 5, api.ErrArg},
		"another than the one that is":       {with(items(3, 5), 1, text(65)), 3, api.ErrArg},
		"none from where one's Val is so":    {with(items(3, 5), 1, text(65)), 4, api.ErrArg},
		"the last one from 64 that then not": {append(rising(63, 0, 1), item(5)), 5, api.ErrArg},
	} {
		if got, e := skip.Drop(x.l, x.k); len(got) != 0 || e != x.want {
			t.Errorf("%v: Drop of %v from %v = %v, %v, want %v", what, x.k, show(x.l), show(got), e, x.want)
		}
	}
}

// P16.3

// Hops as the chapter's words have them, told by another program.
func TestFindAsPrinted(t *testing.T) {
	cubes := make([]api.Item, 64)
	for i := range cubes {
		cubes[i] = item(uint64(i * i * i))
	}
	edges := items(0, 1, 255, 256, 1<<32-1, 1<<32, 1<<63-1, 1<<63, math.MaxUint64-1, math.MaxUint64)
	for _, x := range []struct {
		key  string
		l    []api.Item
		k    uint64
		hops []api.Hop
	}{
		{"", items(3, 5, 9), 6, []api.Hop{hop(1, 1)}},
		{"a key", items(3, 5, 9), 6, []api.Hop{hop(6, 0), hop(2, 1)}},
		{"another key", items(3, 5, 9), 6, []api.Hop{hop(1, 0), hop(1, 1)}},
		{"\xff\x80\xc3", items(3, 5, 9), 6, []api.Hop{hop(3, 0), hop(1, 1)}},
		{filled(64), items(3, 5, 9), 6, []api.Hop{hop(2, 0), hop(0, 1)}},
		{filled(65), items(3, 5, 9), 6, []api.Hop{hop(0, 0), hop(0, 1)}},
		{"a key", nine(), 0, []api.Hop{hop(4, 0)}},
		{"a key", nine(), 1, []api.Hop{hop(4, 0), hop(1, 1)}},
		{"a key", nine(), 2, []api.Hop{hop(4, 0), hop(1, 1)}},
		{"a key", nine(), 3, []api.Hop{hop(6, 2)}},
		{"a key", nine(), 4, []api.Hop{hop(6, 2)}},
		{"a key", nine(), 6, []api.Hop{hop(6, 2), hop(2, 3)}},
		{"a key", nine(), 9, []api.Hop{hop(6, 2), hop(2, 3), hop(0, 4)}},
		{"a key", nine(), 17, []api.Hop{hop(6, 2), hop(2, 3), hop(0, 4)}},
		{"a key", nine(), 18, []api.Hop{hop(6, 2), hop(3, 5)}},
		{"a key", nine(), 65, []api.Hop{hop(6, 2), hop(5, 6)}},
		{"a key", nine(), 129, []api.Hop{hop(6, 2), hop(5, 6)}},
		{"a key", nine(), 130, []api.Hop{hop(7, 7)}},
		{"a key", nine(), 145, []api.Hop{hop(7, 7)}},
		{"a key", nine(), 146, []api.Hop{hop(7, 7), hop(7, 8)}},
		{"a key", nine(), math.MaxUint64, []api.Hop{hop(7, 7), hop(7, 8)}},
		{"", cubes, 0, []api.Hop{hop(0, 0)}},
		{"", cubes, 17577, []api.Hop{hop(3, 11), hop(3, 23), hop(2, 25), hop(0, 26)}},
		{"", cubes, 63999, []api.Hop{hop(4, 28), hop(1, 39)}},
		{"", cubes, math.MaxUint64, []api.Hop{hop(4, 28), hop(4, 62), hop(4, 63)}},
		{"a key", cubes, 7, []api.Hop{hop(4, 0), hop(1, 1)}},
		{"a key", cubes, 17576, []api.Hop{hop(4, 0), hop(3, 20), hop(2, 21), hop(1, 24), hop(0, 25), hop(0, 26)}},
		{"a key", cubes, 63999, []api.Hop{hop(6, 33), hop(2, 34), hop(1, 39)}},
		{"a key", cubes, 250046, []api.Hop{hop(7, 48), hop(5, 56), hop(2, 58), hop(1, 61), hop(0, 62)}},
		{"a key", cubes, 250047, []api.Hop{hop(7, 48), hop(5, 56), hop(2, 58), hop(1, 61), hop(1, 63)}},
		{"another key", cubes, 63999, []api.Hop{hop(6, 7), hop(4, 24), hop(4, 35), hop(0, 36), hop(0, 37), hop(0, 38), hop(0, 39)}},
		{"another key", cubes, 250046, []api.Hop{hop(6, 7), hop(4, 24), hop(4, 35), hop(4, 49), hop(3, 51), hop(1, 54), hop(1, 58), hop(1, 59), hop(1, 60), hop(0, 61), hop(0, 62)}},
		{"another key", cubes, 250047, []api.Hop{hop(6, 7), hop(6, 63)}},
		{filled(64), cubes, math.MaxUint64, []api.Hop{hop(5, 15), hop(5, 19), hop(4, 23), hop(4, 26), hop(4, 59), hop(1, 60), hop(1, 61), hop(1, 63)}},
		{filled(65), cubes, 250046, []api.Hop{hop(6, 62)}},
		{"", edges, 0, []api.Hop{hop(0, 0)}},
		{"", edges, 1<<32 - 1, []api.Hop{hop(3, 3), hop(2, 4)}},
		{"", edges, 1<<63 - 1, []api.Hop{hop(3, 3), hop(2, 4), hop(1, 5), hop(0, 6)}},
		{"", edges, math.MaxUint64 - 1, []api.Hop{hop(3, 3), hop(2, 4), hop(1, 5), hop(1, 7), hop(0, 8)}},
		{"", edges, math.MaxUint64, []api.Hop{hop(6, 9)}},
		{"a key", edges, 1 << 63, []api.Hop{hop(4, 0), hop(2, 5), hop(2, 7)}},
		{"a key", edges, math.MaxUint64, []api.Hop{hop(4, 0), hop(2, 5), hop(2, 7), hop(2, 8), hop(0, 9)}},
		{"\x00a key", edges, 1<<32 + 1, []api.Hop{hop(3, 4), hop(0, 5)}},
	} {
		at, hops, e := skip.Find(x.key, x.l, x.k)
		if want := x.hops[len(x.hops)-1].At; at != want || !slices.Equal(hops, x.hops) || e != api.OK {
			t.Errorf("Find by %.20q of %v in %v = %v, %v, %v, want %v, %v", x.key, x.k, show(x.l), at, hops, e, want, x.hops)
		}
		checkFind(t, x.key, x.l, x.k)
	}
}

// filled is a key of so many bytes.
func filled(many int) string {
	b := make([]byte, many)
	for i := range b {
		b[i] = 'k'
	}
	return string(b)
}

func TestFindOfNone(t *testing.T) {
	for _, x := range []struct {
		l []api.Item
		k uint64
	}{
		{nil, 0},
		{nil, math.MaxUint64},
		{[]api.Item{}, 0},
		{[]api.Item{}, 7},
		{items(1), 0},
		{items(3, 5, 9), 2},
		{items(3, 5, 9), 0},
		{items(130, 146), 129},
		{items(math.MaxUint64), math.MaxUint64 - 1},
		{items(math.MaxUint64), 1<<63 - 1},
		{items(1 << 63), 1<<63 - 1},
		{items(1 << 32), 1<<32 - 1},
		{rising(64, 1, 1), 0},
	} {
		for _, key := range []string{"", "a key", text(65)} {
			if at, hops, e := skip.Find(key, x.l, x.k); at != 0 || len(hops) != 0 || e != api.ErrNone {
				t.Errorf("Find by %.20q of %v in %v = %v, %v, %v, want ErrNone", key, x.k, show(x.l), at, hops, e)
			}
		}
	}
}

// One item of each height: one hop, on its highest level.
func TestFindOfOneItemOfEachHeight(t *testing.T) {
	for _, x := range heights {
		if got := height(key, x.n); got != x.height {
			t.Errorf("the height of %v is %v, want %v", x.n, got, x.height)
		}
		for _, k := range []uint64{x.n, x.n + 1, math.MaxUint64} {
			want := []api.Hop{hop(x.height-1, 0)}
			if at, hops, e := skip.Find(key, items(x.n), k); at != 0 || !slices.Equal(hops, want) || e != api.OK {
				t.Errorf("Find of %v in %v alone = %v, %v, %v, want 0, %v", k, x.n, at, hops, e, want)
			}
		}
	}
}

// Items of the heights 8 to 1, 1 to 8, each twice, and all the least or the greatest, by key: told beside the program, by another one.
func TestFindByHeightsInOrder(t *testing.T) {
	for what, x := range map[string]struct {
		l    []api.Item
		hops []api.Hop
	}{
		"falling":     {items(130, 158, 203, 212, 227, 233, 236, 237), []api.Hop{hop(7, 0), hop(6, 1), hop(5, 2), hop(4, 3), hop(3, 4), hop(2, 5), hop(1, 6), hop(0, 7)}},
		"rising":      {items(9, 10, 13, 18, 78, 103, 158, 217), []api.Hop{hop(7, 7)}},
		"each twice":  {items(130, 137, 158, 586, 610, 643, 763, 799), []api.Hop{hop(7, 0), hop(7, 1), hop(6, 2), hop(6, 3), hop(5, 4), hop(5, 5), hop(4, 6), hop(4, 7)}},
		"and further": {items(822, 829, 833, 839, 844, 847, 851, 853), []api.Hop{hop(3, 0), hop(3, 1), hop(2, 2), hop(2, 3), hop(1, 4), hop(1, 5), hop(0, 6), hop(0, 7)}},
		"1 between 8": {items(9, 130, 148, 217, 219, 253, 255), []api.Hop{hop(7, 1), hop(7, 3), hop(7, 5), hop(0, 6)}},
		"all of 1":    {items(9, 11, 12, 14, 15, 19), []api.Hop{hop(0, 0), hop(0, 1), hop(0, 2), hop(0, 3), hop(0, 4), hop(0, 5)}},
	} {
		if at, hops, e := skip.Find(key, x.l, math.MaxUint64); at != len(x.l)-1 || !slices.Equal(hops, x.hops) || e != api.OK {
			t.Errorf("%v: Find = %v, %v, %v, want %v", what, at, hops, e, x.hops)
		}
		checkFinds(t, key, x.l)
	}
}

// Keys at edges: what is found does not hang on them, but the hops do.
func TestFindByKeys(t *testing.T) {
	for _, key := range []string{"", "\x00", "a\x00key", "a key\x00", "\xff\x80\xc3", "\xed\xa0\x80", text(16), text(32), text(63), text(64), text(65), text(5000)} {
		for _, l := range [][]api.Item{nil, items(0), items(3, 5, 9), nine(), rising(20, 1<<63-10, 1)} {
			checkFinds(t, key, l)
		}
	}
	checkFinds(t, "", rising(64, 5, 1<<57))
	checkFinds(t, key, rising(64, math.MaxUint64-63, 1))
}

// What stands for a number changes no hop.
func TestFindDoesNotHangOnVals(t *testing.T) {
	for _, k := range near(nine()) {
		at, hops, e := skip.Find(key, nine(), k)
		for i := range nine() {
			for _, val := range []string{"", "a", text(64)} {
				a, h, why := skip.Find(key, with(nine(), i, val), k)
				if a != at || !slices.Equal(h, hops) || why != e {
					t.Errorf("Find of %v with %q at %v = %v, %v, %v, want %v, %v, %v", k, val, i, a, h, why, at, hops, e)
				}
			}
		}
	}
}

// P16.4

// Two items put in either order make the same list, wherever they come to stand.
func TestTwoPutsInEitherOrder(t *testing.T) {
	for _, l := range [][]api.Item{nil, items(5), items(3, 5, 9), rising(62, 10, 2)} {
		for _, a := range near(l) {
			for _, b := range near(l) {
				if a == b {
					continue
				}
				one := putAll(t, l, api.Item{Key: a, Val: "a"}, api.Item{Key: b, Val: "b"})
				other := putAll(t, l, api.Item{Key: b, Val: "b"}, api.Item{Key: a, Val: "a"})
				if !skip.Like(one, other) || !same(one, other) {
					t.Fatalf("%v and %v put to %v: %v, or %v", a, b, show(l), show(one), show(other))
				}
			}
		}
	}
}

// Of two items of one number the one that was put last stays.
func TestTwoPutsOfOneNumber(t *testing.T) {
	for _, l := range [][]api.Item{nil, items(5), items(3, 5, 9), rising(63, 10, 2)} {
		for _, k := range near(l) {
			got := putAll(t, l, api.Item{Key: k, Val: "a"}, api.Item{Key: k, Val: "b"})
			want := putAll(t, l, api.Item{Key: k, Val: "b"})
			if !same(got, want) {
				t.Fatalf("%v put twice to %v: %v, want %v", k, show(l), show(got), show(want))
			}
		}
	}
}

// putAll is a list with some items more, put one behind the other.
func putAll(t *testing.T, l []api.Item, more ...api.Item) []api.Item {
	t.Helper()
	for _, x := range more {
		var e api.Errno
		if l, e = skip.Put(l, x); e != api.OK {
			t.Fatalf("Put of %v to %v = %v", show([]api.Item{x}), show(l), e)
		}
	}
	return l
}

// calls are calls that are handed a list, by what they do; each answers the list that it makes, if it makes one.
func calls() map[string]func(l []api.Item) []api.Item {
	put := func(k uint64, val string) func(l []api.Item) []api.Item {
		return func(l []api.Item) []api.Item { got, _ := skip.Put(l, api.Item{Key: k, Val: val}); return got }
	}
	drop := func(k uint64) func(l []api.Item) []api.Item {
		return func(l []api.Item) []api.Item { got, _ := skip.Drop(l, k); return got }
	}
	find := func(k uint64) func(l []api.Item) []api.Item {
		return func(l []api.Item) []api.Item {
			_, hops, _ := skip.Find(key, l, k)
			clear(hops[:cap(hops)])
			return nil
		}
	}
	return map[string]func(l []api.Item) []api.Item{
		"Put ahead":          put(2, "a"),
		"Put between":        put(4, "a"),
		"Put behind":         put(10, "a"),
		"Put of the first":   put(3, "a"),
		"Put of one":         put(5, "a"),
		"Put of the last":    put(9, "a"),
		"Put of 65 bytes":    put(5, text(65)),
		"Drop of the first":  drop(3),
		"Drop of one":        drop(5),
		"Drop of the last":   drop(9),
		"Drop of none":       drop(4),
		"Find of none":       find(2),
		"Find of the first":  find(3),
		"Find of the last":   find(9),
		"Find of more":       find(100),
		"Right":              func(l []api.Item) []api.Item { skip.Right(l); return nil },
		"Like":               func(l []api.Item) []api.Item { skip.Like(l, l[:len(l)/2]); return nil },
		"Like of the second": func(l []api.Item) []api.Item { skip.Like(items(3, 5, 9), l); return nil },
	}
}

// R4: no call changes the list that it was handed, nor what stands behind its end; and an answer's list is nobody else's.
func TestListsAreNotChangedAndNotShared(t *testing.T) {
	behind := items(7, 1, 8)
	for name, call := range calls() {
		for _, l := range [][]api.Item{nil, items(3), items(5), items(9), items(3, 5), items(5, 9), items(3, 5, 9), items(9, 5, 3), items(5, 5), with(items(3, 5, 9), 1, text(65))} {
			memory := slices.Concat(l, behind)
			got := call(memory[:len(l)])
			if !same(memory, slices.Concat(l, behind)) {
				t.Errorf("%v of %v changed it: %v", name, show(l), show(memory))
			}
			was := slices.Clone(got)
			again := call(memory[:len(l)])
			clear(got[:cap(got)])
			if !same(again, was) || !same(memory, slices.Concat(l, behind)) {
				t.Errorf("%v of %v: %v, and, that cleared, %v of %v", name, show(l), show(was), show(again), show(memory))
			}
		}
	}
}

// The same of a full list, of which each item is put anew and dropped.
func TestFullListIsNotChangedAndNotShared(t *testing.T) {
	memory := append(rising(64, 0, 2), items(7, 1, 8)...)
	want := slices.Clone(memory)
	for _, x := range want[:64] {
		put, e := skip.Put(memory[:64], api.Item{Key: x.Key, Val: "a"})
		if e != api.OK {
			t.Fatal(x.Key, e)
		}
		clear(put[:cap(put)])
		dropped, e := skip.Drop(memory[:64], x.Key)
		if e != api.OK {
			t.Fatal(x.Key, e)
		}
		clear(dropped[:cap(dropped)])
		skip.Put(memory[:64], api.Item{Key: x.Key + 1})
		skip.Drop(memory[:64], x.Key+1)
		if !same(memory, want) {
			t.Fatalf("at %v the list was changed: %v", x.Key, show(memory))
		}
	}
}
