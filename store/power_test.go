package store_test

import (
	"maps"
	"math"
	"testing"

	"saltus/api"
	"saltus/device"
	"saltus/store"
)

// contents are a volume's blocks that are no holes, by what Load tells of them.
func (x pair) contents(t *testing.T) map[uint64]string {
	t.Helper()
	m := map[uint64]string{}
	for _, item := range x.v.Items {
		state, e := store.Block(x.v, item.Key)
		data, f := store.Load(x.v, item.Key)
		if e != api.OK || f != api.OK {
			t.Fatalf("of block %v: %v, %v", item.Key, e, f)
		}
		m[item.Key] = string(rune('0'+state)) + data
	}
	return m
}

// keeps are which of a cache stay: none, all, each single one, and all but each single one.
func keeps(d api.Dev) []uint64 {
	l := []uint64{0, math.MaxUint64}
	for i := range d.Cache {
		l = append(l, 1<<i)
		if len(d.Cache) > 1 && len(d.Cache) < 20 {
			l = append(l, math.MaxUint64^1<<i)
		}
	}
	return l
}

// call is one whose power goes: how many acts it takes, what is mounted if it is not done, and what if it is.
type call struct {
	name     string
	acts     int
	old, new map[uint64]string
	do       func(t *testing.T, fuel int) (pair, api.Errno)
}

// run tries a call beside others.
func (c call) run(t *testing.T) {
	t.Helper()
	t.Run(c.name, func(t *testing.T) {
		t.Parallel()
		c.try(t)
	})
}

// try has the power go at each act of a call, and at none; what each time is mounted then, whatever of the cache stays, is wholly the old or the new, and a volume as any other.
func (c call) try(t *testing.T) {
	t.Helper()
	for fuel := range c.acts + 2 {
		x, e := c.do(t, fuel)
		if fuel < c.acts {
			if e != api.ErrState || x.v.State != api.VOff || x.v.Fuel != 0 {
				t.Fatalf("%v, fuel %v of %v: %v, state %v, fuel %v", c.name, fuel, c.acts, e, x.v.State, x.v.Fuel)
			}
		} else if e != api.OK || x.v.State != api.VOn || x.v.Fuel != fuel-c.acts {
			t.Fatalf("%v, fuel %v of %v: %v, state %v, fuel %v", c.name, fuel, c.acts, e, x.v.State, x.v.Fuel)
		}
		checkOff(t, x)
		for _, keep := range keeps(x.v.Dev) {
			y, e := x.again(t, keep)
			if c.mounted(t, y, e, fuel); e != api.OK {
				continue
			}
			if keep == 0 || keep == math.MaxUint64 {
				y.goOn(t)
				c.mountedAtLast(t, x, keep)
			}
		}
	}
}

// checkOff holds that a volume whose power went tells so, to each call.
func checkOff(t *testing.T, x pair) {
	t.Helper()
	if x.v.State == api.VOff {
		checkNotOn(t, x.v)
	}
}

// mounted holds what is mounted behind a call that had so much fuel.
func (c call) mounted(t *testing.T, x pair, e api.Errno, fuel int) {
	t.Helper()
	if c.old == nil && e == api.ErrIntegrity && fuel < c.acts {
		return // No flush was done yet.
	}
	if e != api.OK {
		t.Fatalf("%v, fuel %v: mount tells %v", c.name, fuel, e)
	}
	got := x.contents(t)
	if !maps.Equal(got, c.new) && (fuel >= c.acts || !maps.Equal(got, c.old)) {
		t.Fatalf("%v, fuel %v: mounted is %v, was %v, to be %v", c.name, fuel, got, c.old, c.new)
	}
}

// mountedAtLast holds what is mounted where the power goes in the first mounts, too.
func (c call) mountedAtLast(t *testing.T, x pair, keep uint64) {
	t.Helper()
	for fuel := range 3 {
		y, e := x.againWith(t, keep, fuel)
		if e == api.ErrState {
			y, e = y.again(t, keep)
		}
		if c.mounted(t, y, e, 0); e == api.OK {
			y.goOn(t)
		}
	}
}

// goOn holds that a volume that was mounted goes on: it is written, flushed, and mounted again.
func (x pair) goOn(t *testing.T) {
	t.Helper()
	ok := good(t)
	x = x.withFuel(-1)
	for block := range x.p.blocks {
		x = ok(x.save(t, block, bytesOf(77)))
		break
	}
	x = ok(ok(x.flush(t)).again(t, 0))
	x.lookAll(t)
}

// withFuel is a pair with so many acts until its power goes.
func (x pair) withFuel(fuel int) pair {
	x.v.Fuel, x.p.fuel = fuel, fuel
	return x
}

// crowded is a pair whose cache has so many, of a sector that is free; it is mounted so.
func (x pair) crowded(t *testing.T, many int) pair {
	t.Helper()
	d := x.v.Dev
	for i := range many {
		d, _ = device.Write(d, len(d.Store)-1-i%2, bytesOf(i))
	}
	if len(d.Cache) != many {
		t.Fatalf("%v in the cache, want %v", len(d.Cache), many)
	}
	return good(t)(x.mount(t, d, x.v.Trust, -1))
}

func TestPowerGoesInFormat(t *testing.T) {
	for _, n := range []int{16, 17, 20, 64} {
		_, k := layoutOf(n)
		old := slotOf(16)
		old.Count, old.Boots = 3<<32+6, 5
		for _, slot := range []api.Trust{slotOf(16), slotOf(32), old} {
			call{"Format", k + 6, nil, map[uint64]string{}, func(t *testing.T, fuel int) (pair, api.Errno) { return made(t, slot, n, fuel) }}.run(t)
		}
	}
}

// changed is a pair of which a block is written again, one is freed, one is reserved, and one is new, and nothing of that is flushed.
func changed(t *testing.T, x pair) pair {
	t.Helper()
	ok := good(t)
	q, _ := layoutOf(len(x.v.Dev.Store))
	x = ok(x.save(t, 0, bytesOf(60)))
	if q > 2 {
		x = ok(x.free(t, 4, api.SReserved))
	}
	x = ok(x.free(t, 1, api.SHole))
	return ok(x.save(t, lastBlock, bytesOf(61)))
}

func TestPowerGoesInFlush(t *testing.T) {
	for _, n := range []int{16, 17, 24, 44} {
		_, k := layoutOf(n)
		x := full(t, n)
		for _, y := range []pair{x, changed(t, x), changed(t, x.crowded(t, 58))} {
			call{"Flush", k + 5, x.contents(t), y.contents(t), func(t *testing.T, fuel int) (pair, api.Errno) { return y.withFuel(fuel).flush(t) }}.run(t)
		}
	}
}

func TestPowerGoesInSave(t *testing.T) {
	for _, n := range []int{16, 20} {
		x := good(t)(full(t, n).free(t, 1, api.SHole))
		old := full(t, n).contents(t)
		for _, block := range []uint64{0, 7} {
			for _, y := range []pair{x, x.crowdedFree(t, 59), x.crowdedFree(t, 60)} {
				acts := 1
				if len(y.v.Dev.Cache) == 60 {
					acts = 2
				}
				call{"Save", acts, old, old, func(t *testing.T, fuel int) (pair, api.Errno) { return y.withFuel(fuel).save(t, block, bytesOf(62)) }}.run(t)
			}
		}
	}
}

// crowdedFree is a pair that is mounted with so many in its cache, and of which block 1 is freed then.
func (x pair) crowdedFree(t *testing.T, many int) pair {
	t.Helper()
	return good(t)(x.crowded(t, many).free(t, 1, api.SHole))
}

// Calls that have no act need no power.
func TestNoPowerIsNeeded(t *testing.T) {
	ok := good(t)
	x := full(t, 16).withFuel(0)
	for _, block := range []uint64{0, 1, 2, lastBlock} {
		x.look(t, block)
		ok(x.free(t, block, api.SHole)).look(t, block)
	}
	ok(x.free(t, 0, api.SReserved)).look(t, 0)
}

// A mount takes an act, and another one where the flush that it finds was not committed.
func TestPowerGoesInMount(t *testing.T) {
	for _, n := range []int{16, 44} {
		_, k := layoutOf(n)
		x := full(t, n)
		y := changed(t, x)
		old, now := x.contents(t), y.contents(t)
		for acts := range k + 5 {
			off, e := y.withFuel(acts).flush(t)
			refused(t, off, e, api.ErrState)
			for _, keep := range []uint64{0, math.MaxUint64} {
				d, _ := device.Crash(off.v.Dev, keep)
				c := call{"Mount", 1, old, old, func(t *testing.T, fuel int) (pair, api.Errno) { return off.mount(t, d, off.v.Trust, fuel) }}
				if acts == k+4 || acts == k+3 && keep != 0 {
					c.acts, c.new = 2, now
				}
				c.run(t)
			}
		}
	}
}

// A disk that lies is told where the power is there for the mount's first act; a disk that is not opened needs no more of it.
func TestPowerGoesInMountOfADiskThatLies(t *testing.T) {
	x := full(t, 16)
	for _, d := range []api.Dev{{Store: make([]string, 16)}, {Store: make([]string, 64)}} {
		for fuel, want := range []api.Errno{api.ErrState, api.ErrIntegrity, api.ErrIntegrity} {
			y, e := x.mount(t, d, x.v.Trust, fuel)
			refused(t, y, e, want)
			if y.v.Fuel != max(0, fuel-1) || y.v.State != []int{api.VOff, api.VFailed, api.VFailed}[fuel] {
				t.Errorf("fuel %v: fuel %v, state %v", fuel, y.v.Fuel, y.v.State)
			}
			checkNotOn(t, y.v)
		}
	}
}

// Each act by itself, told by hand: how many of a flush's happened, by what is on the disk and in the slot.
func TestEachActOfAFlush(t *testing.T) {
	x := changed(t, full(t, 16))
	for fuel, want := range [][3]int{
		{2, 0, 0}, // nothing: the blocks that were saved are in the cache
		{0, 0, 0}, // a barrier
		{1, 0, 0}, // a sector of the record
		{2, 0, 0}, // and the other one
		{0, 2, 0}, // a barrier
		{1, 2, 0}, // the head
		{0, 3, 0}, // a barrier
		{0, 3, 1}, // the slot
	} {
		y, _ := x.withFuel(fuel).flush(t)
		now := 0
		for at, bytes := range y.v.Dev.Store {
			// Full was flushed with the even half: the odd one is Format's.
			if bytes != x.v.Dev.Store[at] && (at == 1 || at == 4 || at == 5) {
				now++
			}
		}
		if got := [3]int{len(y.v.Dev.Cache), now, int(y.v.Trust.Count - x.v.Trust.Count)}; got != want {
			t.Errorf("fuel %v: %v in the cache, %v written, slot's number %v more, want %v", fuel, got[0], got[1], got[2], want)
		}
	}
}
