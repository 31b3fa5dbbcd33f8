package store_test

import (
	"math"
	"math/rand"
	"slices"
	"strings"
	"testing"

	"saltus/api"
	"saltus/store"
)

// P1: no call panics, and each ends.

// edited is a disk with edits: of three bytes each, where and what.
func edited(d api.Dev, edits string) api.Dev {
	d = diskOf(d.Store)
	for i := 0; i+3 <= len(edits); i += 3 {
		at, to := int(edits[i])%len(d.Store), int(edits[i+1])
		switch s := d.Store[at]; edits[i+2] % 7 {
		case 0:
			d.Store[at] = d.Store[to%len(d.Store)]
		case 1:
			d.Store[at] = s[:to%(len(s)+1)]
		case 2:
			d.Store[at] = s + strings.Repeat("x", to)
		case 3:
			if s != "" {
				d.Store[at] = flip(s, to%len(s)*8+to/7%8)
			}
		case 4:
			d.Cache = append(d.Cache, api.Put{At: to%(len(d.Store)+2) - 1, Data: s})
		case 5:
			d.Store = append(d.Store, s)
		default:
			d.Store = d.Store[:1+to%len(d.Store)]
		}
	}
	return d
}

// mayMount tells which error Mount has ahead of all that it does, by the chapter's words.
func mayMount(d api.Dev, slot api.Trust, fuel int) api.Errno {
	long := func(s string) bool { return len(s) > 128 }
	switch {
	case !mayBe(slot) || fuel < -1:
		return api.ErrArg
	case len(d.Store) < 16 || len(d.Store) > 64:
		return api.ErrSize
	case slices.ContainsFunc(d.Store, long) || len(d.Cache) > 60:
		return api.ErrArg
	case slices.ContainsFunc(d.Cache, func(w api.Put) bool { return w.At < 0 || w.At >= len(d.Store) || long(w.Data) }):
		return api.ErrArg
	case slot.Boots == 1<<32-1:
		return api.ErrRange
	}
	return api.OK
}

func FuzzMount(f *testing.F) {
	f.Add(16, uint64(0), uint64(0), -1, "")
	f.Add(16, uint64(1), uint64(1), 2, "\x00\x01\x00")
	f.Add(20, uint64(2), uint64(0), 1, "\x02\x01\x03\x08\x30\x03")
	f.Add(64, uint64(math.MaxUint64), uint64(0), 0, "\x05\x06\x04\x01\x02\x06")
	f.Add(17, uint64(0), uint64(1<<32), -2, "\x10\x01\x05\x07\xff\x02")
	f.Fuzz(func(t *testing.T, n int, count, boots uint64, fuel int, edits string) {
		x := full(t, 16+int(uint(n)%49))
		d, slot := edited(x.v.Dev, edits), x.v.Trust
		slot.Count, slot.Boots = slot.Count+count, slot.Boots+boots
		if why := mayMount(d, slot, fuel); why != api.OK {
			if v, e := store.Mount(d, slot, fuel); !same(v, api.Vol{}) || e != why {
				t.Fatalf("Mount = %v, %v, want %v", v, e, why)
			}
			return
		}
		y, e := x.mount(t, d, slot, fuel)
		y.lookAll(t)
		if e == api.OK && y.v.Trust.Boots < 1<<32-1 {
			y.goOn(t)
		}
	})
}

// Volumes of any shape are not asked, but they do not make a call panic either.
func TestVolumesOfAnyShape(t *testing.T) {
	r := rand.New(rand.NewSource(4))
	x := full(t, 16)
	texts := func() string { return strings.Repeat("x", []int{0, 1, 16, 32, 64, 65, 200, 5000}[r.Intn(8)]) }
	for range 2000 {
		v := deep(x.v)
		v.Fuel = r.Intn(20) - 3
		for range r.Intn(4) {
			switch r.Intn(8) {
			case 0:
				v.Dev.Store = append(v.Dev.Store, texts())[r.Intn(len(v.Dev.Store)+1):]
			case 1:
				v.Dev.Cache = append(v.Dev.Cache, api.Put{At: r.Intn(100) - 10, Data: texts()})
			case 2:
				v.Items = []api.Item{{Key: uint64(r.Intn(4)), Val: texts()}}
			case 3:
				v.Items = append(v.Items, api.Item{Key: 3, Val: number(r.Uint64()>>r.Intn(64)) + number(r.Uint64())})
			case 4:
				v.Used = api.Bits{N: r.Intn(100) - 10, Low: make([]uint64, r.Intn(3))}
			case 5:
				v.Wait = append(v.Wait, r.Intn(100)-10)
			case 6:
				v.Trust = api.Trust{Count: r.Uint64(), Boots: r.Uint64() >> r.Intn(64), Key: texts()}
			default:
				v.Seq = r.Uint64()
			}
		}
		block := []uint64{0, 1, 3, lastBlock, noBlock}[r.Intn(5)]
		store.Flush(v)
		store.Save(v, block, bytesOf(1))
		store.Free(v, block, r.Intn(3))
		store.Load(v, block)
		store.Block(v, block)
		store.Mount(v.Dev, v.Trust, v.Fuel)
	}
}
