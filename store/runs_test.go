package store_test

import (
	"fmt"
	"math"
	"math/rand"
	"slices"
	"testing"

	"saltus/api"
	"saltus/device"
)

// Long runs of calls, with a power that goes, caches of which some stays, and disks that lie; each call's answer is held against the picture's.

// run is a pair that was, and what it may be put back to.
type run struct {
	pair
	r     *rand.Rand
	n     int
	disks []api.Dev
	many  map[api.Errno]int
}

func TestRuns(t *testing.T) {
	for seed := range int64(60) {
		t.Run(fmt.Sprint(seed), func(t *testing.T) {
			t.Parallel()
			r := rand.New(rand.NewSource(seed))
			n := 16 + r.Intn(49)
			if seed%2 == 0 {
				n = 16 + r.Intn(5)
			}
			x := &run{pair: good(t)(made(t, slotOf(16+16*r.Intn(2)), n, -1)), r: r, n: n, many: map[api.Errno]int{}}
			x.disks = []api.Dev{x.v.Dev}
			for range 200 {
				x.step(t)
			}
			if x.many[api.OK] < 100 || x.many[api.ErrState] < 2 {
				t.Errorf("told: %v", x.many)
			}
		})
	}
}

// step does something, which hangs on chance.
func (x *run) step(t *testing.T) {
	t.Helper()
	e := api.OK
	switch c := x.r.Intn(20); {
	case x.v.State != api.VOn || c == 0:
		e = x.mountAgain(t)
	case c < 8:
		x.pair, e = x.save(t, x.block(), bytesOf(x.r.Intn(1000))[x.r.Intn(20)/19:])
	case c < 11:
		x.pair, e = x.free(t, x.block(), []int{0, 0, 0, 2, 2, 2, 1, 3, -1}[x.r.Intn(9)])
	case c < 14:
		if x.pair, e = x.flush(t); e == api.OK {
			x.disks = append(x.disks, x.v.Dev)
		}
	case c < 15:
		x.pair = x.withFuel(x.r.Intn(15))
	default:
		x.look(t, x.block())
	}
	x.many[e]++
}

// block is one of a few, so that they meet again.
func (x *run) block() uint64 {
	q, _ := layoutOf(x.n)
	if i := x.r.Intn(20); i < len(outer()) {
		return outer()[i]
	}
	return uint64(x.r.Intn(q + 1))
}

func outer() []uint64 { return []uint64{lastBlock, lastBlock - 1, noBlock, math.MaxUint64} }

// mountAgain mounts what stays of the disk, at times of a full cache, or with a power that goes; a disk that lies is told, or does not matter, and put right again.
func (x *run) mountAgain(t *testing.T) api.Errno {
	t.Helper()
	keep := []uint64{0, math.MaxUint64, x.r.Uint64(), 1 << x.r.Intn(10)}[x.r.Intn(4)]
	p := x.p.copy()
	p.crash(keep)
	d, _ := device.Crash(x.v.Dev, keep)
	p.checkDisk(t, d)
	x.p = p
	if x.r.Intn(4) == 0 {
		y, e := x.mount(t, x.lie(d), x.v.Trust, x.r.Intn(4)-1)
		x.many[e]++
		y.lookAll(t)
		// What it learnt of texts stays true, and the slot was begun: the disk is right again.
		x.v.Trust, x.p.slot, x.p.known = y.v.Trust, y.p.slot, y.p.known
		if y.v.Trust.Count != p.slot.Count {
			d.Store = slices.Clone(y.v.Dev.Store)
		}
	}
	if x.r.Intn(4) == 0 {
		d = x.crowd(d)
	}
	y, e := x.mount(t, d, x.v.Trust, x.r.Intn(6)-1)
	if e != api.OK && e != api.ErrState {
		t.Fatalf("mount of a disk that does not lie: %v", e)
	}
	y.lookAll(t)
	x.pair = y
	if x.r.Intn(3) > 0 {
		x.pair = x.withFuel(-1)
	}
	return e
}

// crowd is a disk with much in its cache, of what its sectors have already.
func (x *run) crowd(d api.Dev) api.Dev {
	for range 50 + x.r.Intn(11) {
		at := x.r.Intn(len(d.Store))
		d, _ = device.Write(d, at, d.Store[at])
	}
	return d
}

// lie is a disk of which some sectors are changed, or as they were.
func (x *run) lie(d api.Dev) api.Dev {
	d = diskOf(d.Store)
	if x.r.Intn(8) == 0 {
		return x.disks[x.r.Intn(len(x.disks))]
	}
	for range 1 + x.r.Intn(4) {
		at, other := x.r.Intn(x.n), x.r.Intn(x.n)
		switch s := d.Store[at]; x.r.Intn(4) {
		case 0:
			d.Store[at] = x.disks[x.r.Intn(len(x.disks))].Store[at]
		case 1:
			d.Store[at], d.Store[other] = d.Store[other], s
		case 2:
			if s != "" {
				d.Store[at] = flip(s, x.r.Intn(len(s)*8))
			}
		default:
			d.Store[at] = s[:x.r.Intn(len(s)+1)]
		}
	}
	return d
}
