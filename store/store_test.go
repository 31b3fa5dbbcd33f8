package store_test

import (
	"fmt"
	"math"
	"slices"
	"strings"
	"testing"

	"saltus/api"
	"saltus/device"
	"saltus/store"
)

// The greatest block, and the number behind it.
const (
	lastBlock = uint64(1)<<59 - 1
	noBlock   = uint64(1) << 59
)

// slotOf is a slot that was never begun, with a key of so many bytes.
func slotOf(size int) api.Trust {
	return api.Trust{Key: strings.Repeat("a key of a slot ", 2)[:size]}
}

// bytesOf are a block's bytes, of which no two numbers have the same.
func bytesOf(n int) string { return fmt.Sprintf("%032d", n) }

// good fails the test where a call tells an error.
func good(t *testing.T) func(x pair, e api.Errno) pair {
	return func(x pair, e api.Errno) pair {
		t.Helper()
		if e != api.OK {
			t.Fatalf("error %v", e)
		}
		return x
	}
}

// refused fails the test where a call does not tell an error, or tells another one.
func refused(t *testing.T, x pair, e, want api.Errno) {
	t.Helper()
	if e != want {
		t.Fatalf("error %v, want %v", e, want)
	}
}

// full is a pair of as many blocks as the quota, of which none is reserved, flushed.
func full(t *testing.T, n int) pair {
	t.Helper()
	ok := good(t)
	x := ok(made(t, slotOf(16), n, -1))
	q, _ := layoutOf(n)
	for i := range q {
		x = ok(x.save(t, uint64(i*i), bytesOf(i)))
	}
	return ok(x.flush(t))
}

// again is a pair behind a crash of which so much of the cache stays, and a mount.
func (x pair) again(t *testing.T, keep uint64) (pair, api.Errno) {
	t.Helper()
	return x.againWith(t, keep, -1)
}

func (x pair) againWith(t *testing.T, keep uint64, fuel int) (pair, api.Errno) {
	t.Helper()
	d, e := device.Crash(x.v.Dev, keep)
	if e != api.OK {
		t.Fatal(e)
	}
	p := x.p.copy()
	p.crash(keep)
	p.checkDisk(t, d)
	x.p = p
	got, why := x.mount(t, d, x.v.Trust, fuel)
	// The disk is held here against what it should be, too, not only against what it is.
	p.checkDisk(t, got.v.Dev)
	return got, why
}

// P21.2

// badDisks are disks of so many sectors, by what is wrong with each; three of them are right.
func badDisks(n int) map[string]api.Dev {
	d := func() api.Dev { return api.Dev{Store: make([]string, n)} }
	long := d()
	long.Store[n-1] = strings.Repeat("x", 129)
	most := d()
	most.Store[n-1] = strings.Repeat("x", 128)
	many := d()
	many.Cache = make([]api.Put, 61)
	some := d()
	some.Cache = make([]api.Put, 60)
	behind := d()
	behind.Cache = []api.Put{{At: n}}
	ahead := d()
	ahead.Cache = []api.Put{{At: -1}}
	wide := d()
	wide.Cache = []api.Put{{At: n - 1, Data: strings.Repeat("x", 129)}}
	return map[string]api.Dev{"right": d(), "right, most": most, "right, some": some, "long": long, "many": many, "behind": behind, "ahead": ahead, "wide": wide}
}

// Which error comes first: of a slot that may not be, or fuel; of how many sectors there are; of a disk that may not be; of a slot that can't be begun.
func TestWhichErrorComesFirst(t *testing.T) {
	seen := map[api.Errno]int{}
	slots(func(slot api.Trust) {
		for _, fuel := range []int{math.MinInt, -2, -1, 0, 1} {
			if fuel == 1 && slot.Count > 3 {
				continue
			}
			for _, n := range []int{-1, 0, 1, 15, 16, 64, 65, 66, math.MaxInt} {
				want := api.OK
				switch {
				case !mayBe(slot) || fuel < -1:
					want = api.ErrArg
				case n < 16 || n > 64:
					want = api.ErrSize
				case slot.Boots == 1<<32-1:
					want = api.ErrRange
				case fuel >= 0:
					want = api.ErrState
				}
				seen[want]++
				if want == api.OK && slot.Count > 3 {
					continue
				}
				v, e := store.Format(slot, n, fuel)
				if e != want || (v.Dev.Store == nil) != (e != api.OK && e != api.ErrState) {
					t.Errorf("Format of a slot %v, %v sectors, fuel %v = %v, %v, want %v", told(slot), n, fuel, v, e, want)
				}
				if e != api.OK && e != api.ErrState && !same(v, api.Vol{}) {
					t.Errorf("beside %v: %v", e, v)
				}
			}
		}
	})
	if len(seen) != 5 {
		t.Errorf("only these are seen: %v", seen)
	}
}

func TestWhichErrorOfMountComesFirst(t *testing.T) {
	seen := map[api.Errno]int{}
	for _, n := range []int{1, 15, 16, 17, 64, 65, 100} {
		for name, d := range badDisks(n) {
			slots(func(slot api.Trust) {
				for _, fuel := range []int{math.MinInt, -2, -1, 0} {
					want := api.ErrIntegrity
					switch {
					case !mayBe(slot) || fuel < -1:
						want = api.ErrArg
					case n < 16 || n > 64:
						want = api.ErrSize
					case !strings.HasPrefix(name, "right"):
						want = api.ErrArg
					case slot.Boots == 1<<32-1:
						want = api.ErrRange
					case fuel == 0:
						want = api.ErrState
					}
					seen[want]++
					if want == api.ErrIntegrity && slot.Count > 3 {
						continue
					}
					v, e := store.Mount(d, slot, fuel)
					if e != want {
						t.Errorf("Mount of %v sectors, %v, a slot %v, fuel %v = %v, want %v", n, name, told(slot), fuel, e, want)
					}
					if e != api.ErrState && e != api.ErrIntegrity && !same(v, api.Vol{}) {
						t.Errorf("beside %v: %v", e, v)
					}
				}
			})
		}
	}
	for _, fuel := range []int{-2, -1, 0} {
		want := api.ErrSize
		if fuel < -1 {
			want = api.ErrArg
		}
		if v, e := store.Mount(api.Dev{}, slotOf(16), fuel); !same(v, api.Vol{}) || e != want {
			t.Errorf("Mount of no disk, fuel %v = %v, %v, want %v", fuel, v, e, want)
		}
	}
	if len(seen) != 5 {
		t.Errorf("only these are seen: %v", seen)
	}
}

// Disks of each size, slots of both keys and of numbers at edges.
func TestFormatOfEachSize(t *testing.T) {
	for n := 16; n <= 64; n++ {
		for _, size := range []int{16, 32} {
			x, e := made(t, slotOf(size), n, -1)
			refused(t, x, e, api.OK)
			_, k := layoutOf(n)
			if x.v.State != 1 || x.v.Trust.Boots != 1 || x.v.Trust.Count != 1<<32+1 || x.v.Seq != uint64(k+1) || x.v.Fuel != -1 || len(x.v.Items)+len(x.v.Wait)+len(x.v.Dev.Cache) != 0 {
				t.Errorf("Format of %v sectors: %v", n, x.v)
			}
			for at, bytes := range x.v.Dev.Store {
				if (bytes != "") != (at == 1 || at >= 2+k && at < 2+2*k) {
					t.Errorf("%v sectors: sector %v is %q", n, at, bytes)
				}
			}
			x.lookAll(t)
		}
	}
}

func TestFormatOfSlots(t *testing.T) {
	const most = (1<<32 - 1) << 32
	for _, s := range [][3]uint64{{0, 0, 1<<32 + 1}, {1, 0, 1<<32 + 2}, {1 << 32, 1, 2<<32 + 1}, {1<<32 + 1, 1, 2<<32 + 2}, {7<<32 + 5, 9, 10<<32 + 2}, {7<<32 + 4, 9, 10<<32 + 1}, {1<<32 - 1, 0, 1<<32 + 2}, {0, 1<<32 - 2, most + 1}, {most - 1, 1<<32 - 2, most + 2}} {
		slot := slotOf(16)
		slot.Count, slot.Boots = s[0], s[1]
		x, e := made(t, slot, 16, -1)
		refused(t, x, e, api.OK)
		if x.v.Trust.Count != s[2] || x.v.Trust.Boots != s[1]+1 {
			t.Errorf("Format of a slot %v: a slot %v, want Count %x", told(slot), told(x.v.Trust), s[2])
		}
		x = good(t)(x.save(t, 5, bytesOf(5)))
		x = good(t)(x.flush(t))
		if x.v.Trust.Count != s[2]+1 {
			t.Errorf("then flushed: a slot %v, want Count %x", told(x.v.Trust), s[2]+1)
		}
		if s[1] == 1<<32-2 {
			if v, e := store.Mount(x.v.Dev, x.v.Trust, -1); !same(v, api.Vol{}) || e != api.ErrRange {
				t.Errorf("Mount with a slot %v = %v, %v, want ErrRange", told(x.v.Trust), v, e)
			}
			continue
		}
		x = good(t)(x.again(t, 0))
		x.lookAll(t)
	}
}

// Format, then each call.
func TestEachCallOfAFreshVolume(t *testing.T) {
	ok := good(t)
	for _, n := range []int{16, 17, 44, 64} {
		x := ok(made(t, slotOf(32), n, -1))
		x.lookAll(t)
		ok(x.flush(t))
		for _, block := range []uint64{0, 1, lastBlock} {
			saved := ok(x.save(t, block, bytesOf(1)))
			saved.lookAll(t)
			ok(saved.flush(t)).lookAll(t)
			ok(x.free(t, block, api.SReserved)).lookAll(t)
			ok(x.free(t, block, api.SHole)).lookAll(t)
			_, e := x.save(t, block+noBlock, bytesOf(1))
			refused(t, x, e, api.ErrRange)
			_, e = x.free(t, block+noBlock, api.SHole)
			refused(t, x, e, api.ErrRange)
		}
		ok(x.again(t, 0)).lookAll(t)
	}
}

// P21.3

// Flushes one behind the other: of no block, of one, of as many as the quota, twice, of reserved ones, and of none again; each mounted behind a crash.
func TestFlush(t *testing.T) {
	ok := good(t)
	for _, n := range []int{16, 17, 20, 43, 64} {
		q, k := layoutOf(n)
		x := ok(made(t, slotOf(16), n, -1))
		count := x.v.Trust.Count
		flush := func() {
			x = ok(x.flush(t))
			if x.v.Trust.Count != count+1 || len(x.v.Dev.Cache) != 0 {
				t.Errorf("%v sectors, flushed: a slot %v, want Count %x; %v in the cache", n, told(x.v.Trust), count+1, len(x.v.Dev.Cache))
			}
			count++
			ok(x.again(t, 0)).lookAll(t)
		}
		flush()
		x = ok(x.save(t, 7, bytesOf(7)))
		flush()
		for i := range q - 1 {
			x = ok(x.save(t, lastBlock-uint64(i), bytesOf(i)))
		}
		flush()
		flush()
		for block := range x.p.blocks {
			x = ok(x.free(t, block, api.SReserved))
		}
		flush()
		for block := range x.p.blocks {
			x = ok(x.free(t, block, api.SHole))
		}
		flush()
		seq := x.v.Seq
		flush()
		if x.v.Seq != seq+uint64(k)+1 || len(x.v.Items) != 0 {
			t.Errorf("%v sectors: seq %v behind %v, %v", n, x.v.Seq, seq, x.v.Items)
		}
	}
}

// A flush's number tells which head and which record are written: the other ones stay as they are.
func TestEachHalf(t *testing.T) {
	ok := good(t)
	for _, n := range []int{16, 64} {
		_, k := layoutOf(n)
		x := ok(made(t, slotOf(16), n, -1))
		for range 5 {
			was := x.v.Dev.Store
			x = ok(x.flush(t))
			half := int(x.v.Trust.Count % 2)
			for at, bytes := range x.v.Dev.Store {
				written := at == half || at >= 2+half*k && at < 2+half*k+k
				if (bytes != was[at]) != written {
					t.Errorf("%v sectors, flush %x: sector %v is %q, was %q", n, x.v.Trust.Count, at, bytes, was[at])
				}
			}
		}
	}
}

// What waited is free behind a flush, and not ahead: a block that is saved again and again gets each free sector, in order, and then there is none.
func TestWhatWaits(t *testing.T) {
	ok := good(t)
	for _, n := range []int{16, 17, 43, 64} {
		_, k := layoutOf(n)
		x := ok(made(t, slotOf(16), n, -1))
		for round := range 3 {
			var want []int
			from := len(x.p.blocks)
			for at := 2 + 2*k; at < n; at++ {
				if from == 1 && at == x.p.blocks[3].text.at {
					continue
				}
				want = append(want, at)
			}
			for i, at := range want {
				if was := x.p.blocks[3]; was.state == 1 {
					x = ok(x.save(t, 3, bytesOf(i)))
					if w := x.v.Wait; w[len(w)-1] != was.text.at || len(w) != i+from {
						t.Fatalf("%v sectors, %v waits, want %v at its end", n, w, was.text.at)
					}
				} else {
					x = ok(x.save(t, 3, bytesOf(i)))
				}
				if x.v.Items[0].Val[:8] != number(256+uint64(at)) {
					t.Fatalf("%v sectors, saved %v times: %v, want sector %v", n, i, x.v.Items, at)
				}
				x.look(t, 3)
			}
			_, e := x.save(t, 3, bytesOf(100))
			refused(t, x, e, api.ErrSpace)
			_, e = x.save(t, 4, bytesOf(100))
			refused(t, x, e, api.ErrSpace)
			ok(x.free(t, 4, api.SReserved))
			if round == 2 {
				x = ok(x.free(t, 3, api.SHole))
				if len(x.v.Wait) != n-2-2*k {
					t.Errorf("%v sectors: %v waits, want all", n, x.v.Wait)
				}
			}
			x = ok(x.flush(t))
			if len(x.v.Wait) != 0 {
				t.Errorf("%v sectors: %v waits behind a flush", n, x.v.Wait)
			}
			x.lookAll(t)
		}
	}
}

func TestSaveOfSizes(t *testing.T) {
	x := good(t)(made(t, slotOf(16), 16, -1))
	for _, size := range []int{0, 1, 31, 32, 33, 64, 65, 88, 128, 4096} {
		for _, block := range []uint64{0, 5, lastBlock, noBlock, math.MaxUint64} {
			want := api.OK
			if size != 32 {
				want = api.ErrSize
			}
			if block >= noBlock {
				want = api.ErrRange
			}
			then, e := x.save(t, block, strings.Repeat("b", size))
			refused(t, x, e, want)
			then.lookAll(t)
		}
	}
	for _, data := range []string{strings.Repeat("\x00", 32), strings.Repeat("\xff", 32)} {
		good(t)(x.save(t, 9, data)).look(t, 9)
	}
}

// As many blocks as the quota, and one more; one that is there already; one that is reserved; and ErrSpace behind ErrRange and ErrSize.
func TestQuota(t *testing.T) {
	t.Parallel()
	ok := good(t)
	for n := 16; n <= 64; n++ {
		q, _ := layoutOf(n)
		x := ok(made(t, slotOf(16), n, -1))
		for i := range q {
			block := uint64(i) * (lastBlock / 16)
			if i%3 == 1 {
				x = ok(x.free(t, block, api.SReserved))
			} else {
				x = ok(x.save(t, block, bytesOf(i)))
			}
			if i%3 == 2 {
				x = ok(x.flush(t))
			}
		}
		for _, block := range []uint64{1, lastBlock} {
			_, e := x.save(t, block, bytesOf(50))
			refused(t, x, e, api.ErrSpace)
			_, e = x.save(t, block, bytesOf(50)[1:])
			refused(t, x, e, api.ErrSize)
			_, e = x.save(t, block+noBlock, bytesOf(50))
			refused(t, x, e, api.ErrRange)
			_, e = x.free(t, block, api.SReserved)
			refused(t, x, e, api.ErrSpace)
			_, e = x.free(t, block+noBlock, api.SReserved)
			refused(t, x, e, api.ErrRange)
			_, e = x.free(t, block, api.SData)
			refused(t, x, e, api.ErrArg)
			ok(x.free(t, block, api.SHole))
		}
		for block := range x.p.blocks {
			y := ok(x.save(t, block, bytesOf(51)))
			y.look(t, block)
			y = ok(x.free(t, block, api.SReserved))
			y.look(t, block)
			y = ok(x.free(t, block, api.SHole))
			y.look(t, block)
			y = ok(y.save(t, 1, bytesOf(52)))
			y.look(t, 1)
			_, e := y.save(t, block, bytesOf(53))
			refused(t, y, e, api.ErrSpace)
		}
		x = ok(ok(x.flush(t)).again(t, 0))
		x.lookAll(t)
		_, e := x.save(t, 1, bytesOf(50))
		refused(t, x, e, api.ErrSpace)
	}
}

// Free of each state to each, and to states that are none.
func TestFree(t *testing.T) {
	ok := good(t)
	start := ok(made(t, slotOf(16), 16, -1))
	start = ok(start.save(t, 8, bytesOf(8)))
	for from, x := range []pair{start, ok(start.save(t, 3, bytesOf(3))), ok(start.free(t, 3, api.SReserved))} {
		for _, flushed := range []bool{false, true} {
			if flushed {
				x = ok(x.flush(t))
			}
			for _, to := range []int{api.SHole, api.SReserved} {
				y := ok(x.free(t, 3, to))
				y.lookAll(t)
				y.look(t, 3)
				if got, e := store.Block(y.v, 3); got != to || e != api.OK {
					t.Errorf("from %v to %v: %v, %v", from, to, got, e)
				}
				if wait := len(y.v.Wait); (wait == 1) != (from == api.SData) || wait > 1 {
					t.Errorf("from %v to %v: %v waits", from, to, y.v.Wait)
				}
				if from == to && !same(x.v, y.v) {
					t.Errorf("from %v to %v: %v, was %v", from, to, y.v, x.v)
				}
				ok(ok(y.flush(t)).again(t, 0)).look(t, 3)
			}
			for _, to := range []int{api.SData, -1, 3, 4, 256, 1<<32 + 2, math.MinInt, math.MaxInt} {
				for _, block := range []uint64{3, 8, lastBlock} {
					_, e := x.free(t, block, to)
					refused(t, x, e, api.ErrArg)
				}
				_, e := x.free(t, noBlock, to)
				refused(t, x, e, api.ErrRange)
			}
		}
	}
}

// What stands for a block: the chapter's two numbers.
func TestItems(t *testing.T) {
	ok := good(t)
	x := ok(made(t, slotOf(16), 16, -1))
	x = ok(x.save(t, lastBlock, bytesOf(1)))
	x = ok(x.free(t, 7, api.SReserved))
	x = ok(x.again(t, 0))
	if len(x.v.Items) != 0 {
		t.Errorf("what was not flushed is mounted: %v", x.v.Items)
	}
	x = ok(x.save(t, lastBlock, bytesOf(1)))
	x = ok(x.free(t, 7, api.SReserved))
	want := []api.Item{{Key: 7, Val: number(512) + number(0)}, {Key: lastBlock, Val: number(256+6) + number(2<<32+1)}}
	if !slices.Equal(x.v.Items, want) {
		t.Errorf("items %v, want %v", x.v.Items, want)
	}
	x = ok(x.save(t, 7, bytesOf(7)))
	want[0].Val = number(256+7) + number(2<<32+2)
	if !slices.Equal(x.v.Items, want) {
		t.Errorf("items %v, want %v", x.v.Items, want)
	}
}

// P21.3, P21.4: a volume that is not on tells ErrState, whatever else it has, and whatever it is asked.
func TestVolumesThatAreNotOn(t *testing.T) {
	x := full(t, 16)
	bare := x.v
	bare.Items, bare.Used = nil, api.Bits{}
	odd := x.v
	odd.Dev = api.Dev{Store: []string{strings.Repeat("x", 200)}, Cache: []api.Put{{At: -7}}}
	odd.Trust = api.Trust{Boots: math.MaxUint64, Key: "short"}
	odd.Items = []api.Item{{Key: math.MaxUint64, Val: "x"}, {Key: 3}, {Key: 3, Val: strings.Repeat("x", 100)}}
	odd.Used = api.Bits{N: -1, Low: []uint64{1, 2, 3}, Full: 77}
	odd.Wait = []int{-1, 1000}
	for _, v := range []api.Vol{x.v, bare, odd, {}} {
		for _, state := range []int{api.VOff, api.VFailed, 3, -1, 257, 1<<32 + 1, math.MinInt} {
			for _, fuel := range []int{math.MinInt, -1, 0, 1} {
				v.State, v.Fuel = state, fuel
				checkNotOn(t, v)
			}
		}
	}
}

func checkNotOn(t *testing.T, v api.Vol) {
	t.Helper()
	for _, block := range []uint64{0, 1, lastBlock, noBlock} {
		for name, call := range map[string]func(v api.Vol) (api.Vol, api.Errno){
			"Flush":       store.Flush,
			"Save":        func(v api.Vol) (api.Vol, api.Errno) { return store.Save(v, block, bytesOf(1)) },
			"Save of 0":   func(v api.Vol) (api.Vol, api.Errno) { return store.Save(v, block, "") },
			"Free":        func(v api.Vol) (api.Vol, api.Errno) { return store.Free(v, block, api.SReserved) },
			"Free to all": func(v api.Vol) (api.Vol, api.Errno) { return store.Free(v, block, 77) },
			"Load": func(v api.Vol) (api.Vol, api.Errno) {
				data, e := store.Load(v, block)
				if data != "" {
					t.Errorf("Load of state %v: %q", v.State, data)
				}
				return api.Vol{}, e
			},
			"Block": func(v api.Vol) (api.Vol, api.Errno) {
				state, e := store.Block(v, block)
				if state != 0 {
					t.Errorf("Block of state %v: %v", v.State, state)
				}
				return api.Vol{}, e
			},
		} {
			if got, e := call(v); !same(got, api.Vol{}) || e != api.ErrState {
				t.Errorf("%v of %v, state %v = %v, %v, want ErrState", name, block, v.State, got, e)
			}
		}
	}
}

// What a call tells beside an error is nothing, where it is no act's: asked of a volume that is on.
func TestNothingBesideErrors(t *testing.T) {
	x := full(t, 16)
	for _, fuel := range []int{-1, 0} {
		x.v.Fuel, x.p.fuel = fuel, fuel
		_, e := x.save(t, noBlock, bytesOf(1))
		refused(t, x, e, api.ErrRange)
		_, e = x.save(t, 0, "x")
		refused(t, x, e, api.ErrSize)
		_, e = x.save(t, 77, bytesOf(1))
		refused(t, x, e, api.ErrSpace)
		_, e = x.free(t, noBlock, api.SHole)
		refused(t, x, e, api.ErrRange)
		_, e = x.free(t, 0, api.SData)
		refused(t, x, e, api.ErrArg)
		_, e = x.free(t, 77, api.SReserved)
		refused(t, x, e, api.ErrSpace)
		x.lookAll(t)
	}
}
