package device_test

import (
	"math"
	"slices"
	"strings"
	"testing"

	"saltus/api"
	"saltus/device"
)

// All bits of keep.
const all = uint64(math.MaxUint64)

// of is a text of so many bytes: those of one number are not those of another one.
func of(many, number int) string {
	b := []byte(strings.Repeat("\x00", many))
	for i := range b {
		b[i] = byte(number + i)
	}
	return string(b)
}

// sectors are a store of so many texts, none like another one.
func sectors(many int) []string {
	var l []string
	for i := range many {
		l = append(l, of(3, i))
	}
	return l
}

// puts are a cache of so many, in sectors below a number, round and round, whose texts are none like another one nor like a store's.
func puts(many, below int) []api.Put {
	var l []api.Put
	for i := range many {
		l = append(l, api.Put{At: i % below, Data: of(5, i)})
	}
	return l
}

// told tells whether a device is just of these lists.
func told(d api.Dev, store []string, cache []api.Put) bool {
	return slices.Equal(d.Store, store) && slices.Equal(d.Cache, cache)
}

// isNothing tells whether a device is the one that stands beside an error.
func isNothing(d api.Dev) bool { return len(d.Store) == 0 && len(d.Cache) == 0 }

// The sizes and numbers that are edges.
var (
	sectorCounts = []int{0, 1, 64, 65}
	cacheSizes   = []int{0, 59, 60, 61}
	textSizes    = []int{0, 127, 128, 129}
	keeps        = []uint64{0, 1, 2, 1<<59 - 1, 1 << 59, 1 << 60, 1<<60 - 1, 1 << 63, 0x5555555555555555, all}
)

// places are the edges of what may be a sector's number, of so many.
func places(many int) []int { return []int{math.MinInt, -1, 0, many - 1, many, math.MaxInt} }

// isPlace tells whether there is a sector of that number, of so many.
func isPlace(at, many int) bool { return 0 <= at && at < many }

// The chapter's example.
func TestExample(t *testing.T) {
	d, e := device.New(2)
	if e != api.OK {
		t.Fatal(e)
	}
	for _, data := range []string{"a", "b"} {
		if d, e = device.Write(d, 1, data); e != api.OK {
			t.Fatal(e)
		}
	}
	if s, e := device.Read(d, 1); s != "b" || e != api.OK {
		t.Errorf("%q, %v, want b", s, e)
	}
	if !told(d, []string{"", ""}, []api.Put{{At: 1, Data: "a"}, {At: 1, Data: "b"}}) {
		t.Error(d)
	}
}

// P9.1

func TestNew(t *testing.T) {
	for _, n := range []int{math.MinInt, -64, -1, 0, 65, 66, 1 << 32, 1<<32 + 1, math.MaxInt} {
		if d, e := device.New(n); !isNothing(d) || e != api.ErrSize {
			t.Errorf("New(%v) = %v, %v, want ErrSize", n, d, e)
		}
	}
	for n := 1; n <= 64; n++ {
		d, e := device.New(n)
		if !told(d, make([]string, n), nil) || e != api.OK {
			t.Errorf("New(%v) = %v, %v", n, d, e)
		}
		if !device.Right(d) {
			t.Errorf("New(%v) may not be", n)
		}
	}
}

func TestRightCountsSectorsAndCache(t *testing.T) {
	for many := range 130 {
		if got, want := device.Right(api.Dev{Store: sectors(many)}), many >= 1 && many <= 64; got != want {
			t.Errorf("Right of %v sectors = %v", many, got)
		}
		d := api.Dev{Store: sectors(64), Cache: puts(many, 64)}
		if got, want := device.Right(d), many <= 60; got != want {
			t.Errorf("Right of %v in the cache = %v", many, got)
		}
	}
}

// One text that is too long is found in each place of the store and of the cache, and so is one of a sector that is not there.
func TestRightLooksAtEachPlace(t *testing.T) {
	for _, size := range append(textSizes, 130, 256, 1<<16) {
		for i := range 64 {
			d := api.Dev{Store: sectors(64), Cache: puts(60, 64)}
			d.Store[i] = of(size, 0)
			if device.Right(d) != (size <= 128) {
				t.Errorf("Right with %v bytes in sector %v = %v", size, i, size > 128)
			}
		}
		for i := range 60 {
			d := api.Dev{Store: sectors(64), Cache: puts(60, 64)}
			d.Cache[i].Data = of(size, 0)
			if device.Right(d) != (size <= 128) {
				t.Errorf("Right with %v bytes in place %v of the cache = %v", size, i, size > 128)
			}
		}
	}
	for _, many := range []int{1, 2, 63, 64} {
		for _, at := range places(many) {
			for i := range 60 {
				d := api.Dev{Store: sectors(many), Cache: puts(60, many)}
				d.Cache[i].At = at
				if got := device.Right(d); got != isPlace(at, many) {
					t.Errorf("Right with sector %v of %v in place %v of the cache = %v", at, many, i, got)
				}
			}
		}
	}
}

// edged are devices at all edges at once, each with whether it may be.
func edged(see func(d api.Dev, may bool)) {
	for _, many := range sectorCounts {
		for _, stored := range textSizes {
			for _, cached := range cacheSizes {
				for _, written := range textSizes {
					for _, at := range []int{-1, many - 1, many} {
						d := api.Dev{Store: sectors(many), Cache: puts(cached, max(many, 1))}
						may := many >= 1 && many <= 64 && cached <= 60
						if many > 0 {
							d.Store[many-1] = of(stored, 1)
							may = may && stored <= 128
						}
						if cached > 0 {
							d.Cache[cached/2] = api.Put{At: at, Data: of(written, 2)}
							may = may && written <= 128 && isPlace(at, many)
						}
						see(d, may)
					}
				}
			}
		}
	}
}

func TestRightOfManyWrongs(t *testing.T) {
	edged(func(d api.Dev, may bool) {
		if got := device.Right(d); got != may {
			t.Errorf("Right(%v) = %v", d, got)
		}
	})
}

func TestNilListsAreEmptyOnes(t *testing.T) {
	for _, d := range []api.Dev{{}, {Store: []string{}}, {Cache: []api.Put{}}, {Store: []string{}, Cache: []api.Put{}}} {
		if device.Right(d) || !device.Like(d, api.Dev{}) || !device.Like(api.Dev{}, d) {
			t.Errorf("%#v is not as a device of no lists", d)
		}
		checkIsArg(t, d)
	}
	none, empty := api.Dev{Store: []string{"a"}}, api.Dev{Store: []string{"a"}, Cache: []api.Put{}}
	if !device.Right(none) || !device.Right(empty) || !device.Like(none, empty) || !device.Like(empty, none) {
		t.Error("a cache that is nil is not as an empty one")
	}
	for _, d := range []api.Dev{none, empty} {
		if got, e := device.Write(d, 0, "b"); !told(got, []string{"a"}, []api.Put{{At: 0, Data: "b"}}) || e != api.OK {
			t.Errorf("Write = %v, %v", got, e)
		}
		if got, e := device.Read(d, 0); got != "a" || e != api.OK {
			t.Errorf("Read = %q, %v", got, e)
		}
		if got, e := device.Barrier(d); !told(got, []string{"a"}, nil) || e != api.OK {
			t.Errorf("Barrier = %v, %v", got, e)
		}
		if got, e := device.Crash(d, all); !told(got, []string{"a"}, nil) || e != api.OK {
			t.Errorf("Crash = %v, %v", got, e)
		}
	}
}

func TestLike(t *testing.T) {
	l := unlike()
	for i, a := range l {
		for j, b := range l {
			b = api.Dev{Store: slices.Clone(b.Store), Cache: slices.Clone(b.Cache)}
			if got := device.Like(a, b); got != (i == j) {
				t.Errorf("Like(%v, %v) = %v", a, b, got)
			}
		}
	}
}

// unlike are devices of which no two are the same: those that differ in one thing from one that is full, and some that may not be.
func unlike() []api.Dev {
	full := func() api.Dev { return api.Dev{Store: sectors(64), Cache: puts(60, 64)} }
	l := []api.Dev{full(), {}, {Store: []string{""}}, {Store: []string{"", ""}}, {Cache: []api.Put{{}}}, {Cache: []api.Put{{}, {}}}, {Store: []string{""}, Cache: []api.Put{{}}}}
	change := func(how func(d *api.Dev)) {
		d := full()
		how(&d)
		l = append(l, d)
	}
	for i := range 64 {
		change(func(d *api.Dev) { d.Store[i] += "\x00" })
		change(func(d *api.Dev) { d.Store[i] = "" })
	}
	for i := range 60 {
		change(func(d *api.Dev) { d.Cache[i].At = 63 })
		change(func(d *api.Dev) { d.Cache[i].At = -1 })
		change(func(d *api.Dev) { d.Cache[i].Data += "\x00" })
	}
	change(func(d *api.Dev) { d.Store = d.Store[:63] })
	change(func(d *api.Dev) { d.Store = append(d.Store, "") })
	change(func(d *api.Dev) { d.Cache = d.Cache[:59] })
	change(func(d *api.Dev) { d.Cache = append(d.Cache, api.Put{}) })
	change(func(d *api.Dev) { d.Cache = nil })
	change(func(d *api.Dev) { d.Store = nil })
	change(func(d *api.Dev) { d.Store[3], d.Store[4] = d.Store[4], d.Store[3] })
	change(func(d *api.Dev) { d.Cache[3], d.Cache[4] = d.Cache[4], d.Cache[3] })
	change(func(d *api.Dev) { d.Store[3], d.Cache[3].Data = d.Cache[3].Data, d.Store[3] })
	return l
}

// P9.2 and P9.3, at the edges of all, and which error comes first.

// checkIsArg holds that each call of a device that may not be tells ErrArg, whatever else is wrong, and nothing beside that.
func checkIsArg(t *testing.T, d api.Dev) {
	t.Helper()
	for _, at := range places(len(d.Store)) {
		if s, e := device.Read(d, at); s != "" || e != api.ErrArg {
			t.Errorf("Read(%v, %v) = %q, %v, want ErrArg", d, at, s, e)
		}
		for _, size := range textSizes {
			if got, e := device.Write(d, at, of(size, 0)); !isNothing(got) || e != api.ErrArg {
				t.Errorf("Write(%v, %v, %v bytes) = %v, %v, want ErrArg", d, at, size, got, e)
			}
		}
	}
	if got, e := device.Barrier(d); !isNothing(got) || e != api.ErrArg {
		t.Errorf("Barrier(%v) = %v, %v, want ErrArg", d, got, e)
	}
	for _, keep := range keeps {
		if got, e := device.Crash(d, keep); !isNothing(got) || e != api.ErrArg {
			t.Errorf("Crash(%v, %x) = %v, %v, want ErrArg", d, keep, got, e)
		}
	}
}

// A device at edges tells of each call what it must, or why it does not.
func TestCallsOfDevicesAtEdges(t *testing.T) {
	edged(func(d api.Dev, may bool) {
		if t.Failed() {
			return
		}
		if !may {
			checkIsArg(t, d)
			return
		}
		for _, at := range places(len(d.Store)) {
			checkRead(t, d, at)
			for _, size := range []int{0, 128, 129} {
				checkWrite(t, d, at, of(size, 7))
			}
		}
		for _, keep := range keeps {
			checkCrash(t, d, keep)
		}
		checkBarrier(t, d)
	})
}

// checkRead holds what Read tells of a device that may be.
func checkRead(t *testing.T, d api.Dev, at int) {
	t.Helper()
	s, e := device.Read(d, at)
	if !isPlace(at, len(d.Store)) {
		if s != "" || e != api.ErrRange {
			t.Errorf("Read(%v, %v) = %q, %v, want ErrRange", d, at, s, e)
		}
		return
	}
	if want := stands(d, at, all); s != want || e != api.OK {
		t.Errorf("Read(%v, %v) = %q, %v, want %q", d, at, s, e, want)
	}
}

// checkWrite holds what Write tells of a device that may be.
func checkWrite(t *testing.T, d api.Dev, at int, data string) {
	t.Helper()
	var want api.Errno
	if len(d.Cache) == 60 {
		want = api.ErrSpace
	}
	if len(data) > 128 {
		want = api.ErrSize
	}
	if !isPlace(at, len(d.Store)) {
		want = api.ErrRange
	}
	got, e := device.Write(d, at, data)
	if e != want || e != api.OK && !isNothing(got) {
		t.Errorf("Write(%v, %v, %q) = %v, %v, want %v", d, at, data, got, e, want)
	}
	if e == api.OK && !told(got, d.Store, append(slices.Clone(d.Cache), api.Put{At: at, Data: data})) {
		t.Errorf("Write(%v, %v, %q) = %v", d, at, data, got)
	}
}

// P9.2

// Each sector is written and read by its own number, up to a full cache, and none changes by another one.
func TestWriteAndReadEachSector(t *testing.T) {
	d := api.Dev{Store: sectors(64)}
	var cache []api.Put
	for i := range 60 {
		at, data := (i*7+3)%64, of(i, 100+i)
		cache = append(cache, api.Put{At: at, Data: data})
		var e api.Errno
		if d, e = device.Write(d, at, data); !told(d, sectors(64), cache) || e != api.OK {
			t.Fatalf("behind %v written: %v, %v", i+1, d, e)
		}
		for at := range 64 {
			checkRead(t, d, at)
		}
	}
	if got, e := device.Write(d, 0, ""); !isNothing(got) || e != api.ErrSpace {
		t.Errorf("Write to a full cache = %v, %v", got, e)
	}
}

// An empty text that was written is read, though what it stands for is not; and a byte is a byte as any other.
func TestAnyTextIsWrittenAndRead(t *testing.T) {
	for _, data := range []string{"", "\x00", "\xff\xfe", "a\x00b", "ä", of(127, 9), of(128, 9), strings.Repeat("\xff", 128)} {
		for _, cache := range [][]api.Put{nil, {{At: 1, Data: "newer"}}} {
			d, e := device.Write(api.Dev{Store: []string{"x", "old", "y"}, Cache: cache}, 1, data)
			if e != api.OK {
				t.Fatal(e)
			}
			for at, want := range []string{"x", data, "y"} {
				if s, e := device.Read(d, at); s != want || e != api.OK {
					t.Errorf("Read of %v = %q, %v, want %q", at, s, e, want)
				}
			}
			d, e = device.Barrier(d)
			if !told(d, []string{"x", data, "y"}, nil) || e != api.OK {
				t.Errorf("Barrier = %v, %v", d, e)
			}
		}
	}
}

// P9.3

// What stays is told by a place's own bit, up to the last one that a cache has, and bits behind its end count nothing.
func TestCrashKeepsByBits(t *testing.T) {
	for _, many := range []int{0, 1, 2, 31, 32, 33, 59, 60} {
		d := api.Dev{Store: sectors(64), Cache: puts(many, 64)}
		for bit := range 64 {
			for _, keep := range []uint64{1 << bit, ^(1 << bit)} {
				want := sectors(64)
				for i := range many {
					if (i == bit) == (keep == 1<<bit) {
						want[i] = d.Cache[i].Data
					}
				}
				if got, e := device.Crash(d, keep); !told(got, want, nil) || e != api.OK {
					t.Errorf("Crash of %v in the cache, %x = %v, %v, want %v", many, keep, got, e, want)
				}
			}
		}
		for _, behind := range []uint64{all << many, 1 << 63} {
			if got, e := device.Crash(d, behind); !told(got, sectors(64), nil) || e != api.OK {
				t.Errorf("Crash of %v in the cache, %x = %v, %v, want the store", many, behind, got, e)
			}
		}
	}
}

// Of one sector's texts that stay, the last one does.
func TestCrashKeepsTheLastOfASector(t *testing.T) {
	d := api.Dev{Store: []string{"x", "y"}, Cache: []api.Put{{At: 0, Data: "a"}, {At: 0, Data: "b"}, {At: 1, Data: "c"}, {At: 0, Data: ""}}}
	for keep, want := range [][]string{
		{"x", "y"}, {"a", "y"}, {"b", "y"}, {"b", "y"},
		{"x", "c"}, {"a", "c"}, {"b", "c"}, {"b", "c"},
		{"", "y"}, {"", "y"}, {"", "y"}, {"", "y"},
		{"", "c"}, {"", "c"}, {"", "c"}, {"", "c"},
	} {
		for _, behind := range []uint64{0, 1 << 4, 1 << 63, all - 15} {
			if got, e := device.Crash(d, uint64(keep)|behind); !told(got, want, nil) || e != api.OK {
				t.Errorf("Crash(%b) = %v, %v, want %q", uint64(keep)|behind, got, e, want)
			}
		}
	}
	if got, e := device.Barrier(d); !told(got, []string{"", "c"}, nil) || e != api.OK {
		t.Errorf("Barrier = %v, %v", got, e)
	}
}

// R4: no call changes a list that it was handed, nor what stands behind its end; and an answer's lists are nobody else's.

// guarded is a device whose lists have more behind their ends, and those lists, whole.
func guarded() (api.Dev, []string, []api.Put) {
	store, cache := sectors(64), puts(60, 8)
	return api.Dev{Store: store[:8], Cache: cache[:20]}, store, cache
}

func TestListsAreNotChangedAndNotShared(t *testing.T) {
	for name, call := range map[string]func(d api.Dev) api.Dev{
		"New":              func(d api.Dev) api.Dev { d, _ = device.New(8); return d },
		"Right":            func(d api.Dev) api.Dev { device.Right(d); return api.Dev{} },
		"Like":             func(d api.Dev) api.Dev { device.Like(d, d); return api.Dev{} },
		"Read":             func(d api.Dev) api.Dev { device.Read(d, 3); return api.Dev{} },
		"Write":            func(d api.Dev) api.Dev { d, _ = device.Write(d, 3, "new"); return d },
		"Write of no room": func(d api.Dev) api.Dev { d, _ = device.Write(d, 8, "new"); return d },
		"Barrier":          func(d api.Dev) api.Dev { d, _ = device.Barrier(d); return d },
		"Crash, all":       func(d api.Dev) api.Dev { d, _ = device.Crash(d, all); return d },
		"Crash, some":      func(d api.Dev) api.Dev { d, _ = device.Crash(d, 5); return d },
		"Crash, none":      func(d api.Dev) api.Dev { d, _ = device.Crash(d, 0); return d },
	} {
		d, store, cache := guarded()
		unchanged := func() bool {
			return slices.Equal(store, sectors(64)) && slices.Equal(cache, puts(60, 8)) && told(d, sectors(8), puts(20, 8))
		}
		got := call(d)
		if !unchanged() {
			t.Errorf("%v changed a list", name)
		}
		was := api.Dev{Store: slices.Clone(got.Store), Cache: slices.Clone(got.Cache)}
		again := call(d)
		clear(got.Store[:cap(got.Store)])
		clear(got.Cache[:cap(got.Cache)])
		if !unchanged() {
			t.Errorf("%v's answer is its argument's memory", name)
		}
		if !told(again, was.Store, was.Cache) {
			t.Errorf("%v: %v, and then %v", name, was, again)
		}
	}
}

// Two texts that are written to one device, one beside the other, stand each in its own answer.
func TestWritesBesideEachOther(t *testing.T) {
	d, _, _ := guarded()
	a, e := device.Write(d, 0, "a")
	b, f := device.Write(d, 0, "b")
	if e != api.OK || f != api.OK {
		t.Fatal(e, f)
	}
	if !told(a, sectors(8), append(puts(20, 8), api.Put{Data: "a"})) || !told(b, sectors(8), append(puts(20, 8), api.Put{Data: "b"})) {
		t.Errorf("%v and %v", a, b)
	}
}
