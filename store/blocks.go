package store

import (
	"cmp"
	"slices"

	"saltus/api"
	"saltus/bitmap"
	"saltus/codec"
	"saltus/skip"
)

// place is where a block's bytes are: its state, and, of data, its sector and the generation that it was sealed with.
type place struct {
	state  int
	sector int
	gen    uint64
}

// stateUnit is what a state is times, so that a sector's number has room beside it.
const stateUnit = 256

// val is what stands for a block of a place in a list.
func (p place) val() string {
	return codec.Number(uint64(p.state)*stateUnit+uint64(p.sector)) + codec.Number(p.gen)
}

// placeIn is the place that stands for a block in a list, and whether one does.
func placeIn(val string) (place, bool) {
	fields, _, e := codec.Split(val, "nn")
	if e != api.OK {
		return place{}, false
	}
	both := fields[0].N
	return place{state: int(both / stateUnit), sector: int(both % stateUnit), gen: fields[1].N}, true
}

// placeOf is a block's place. A hole has the zero one.
func placeOf(v api.Vol, block uint64) place {
	at, is := slices.BinarySearchFunc(v.Items, block, func(x api.Item, block uint64) int { return cmp.Compare(x.Key, block) })
	if !is {
		return place{state: api.SHole}
	}
	p, _ := placeIn(v.Items[at].Val)
	return p
}

// hasRoom tells whether a block may be one that is no hole.
func hasRoom(v api.Vol, block uint64) bool {
	q, _, _ := Layout(len(v.Dev.Store))
	return len(v.Items) < q || placeOf(v, block).state != api.SHole
}

// become has a block be in another place: the sector that it had waits.
func become(v *api.Vol, block uint64, now place) {
	was := placeOf(*v, block)
	if was.state == api.SData {
		v.Wait = append(v.Wait, was.sector)
	}
	if now.state == api.SData {
		v.Used, _ = bitmap.Set(v.Used, now.sector, true)
	}
	switch {
	case now.state != api.SHole:
		v.Items, _ = skip.Put(v.Items, api.Item{Key: block, Val: now.val()})
	case was.state != api.SHole:
		v.Items, _ = skip.Drop(v.Items, block)
	}
}

// release has the sectors that wait be free.
func release(v *api.Vol) {
	for _, at := range v.Wait {
		v.Used, _ = bitmap.Set(v.Used, at, false)
	}
	v.Wait = nil
}

// usedBy is what is taken of a disk of so many sectors, which may be, by a list of blocks; and whether it may have them.
func usedBy(n int, l []api.Item) (api.Bits, bool) {
	q, k, _ := Layout(n)
	if len(l) > q || !skip.Right(l) {
		return api.Bits{}, false
	}
	used, _ := bitmap.New(n)
	for at := range firstData(k) {
		used, _ = bitmap.Set(used, at, true)
	}
	for _, x := range l {
		p, is := placeIn(x.Val)
		if !is || x.Key >= api.Blocks {
			return api.Bits{}, false
		}
		if used, is = taken(used, p); !is {
			return api.Bits{}, false
		}
	}
	return used, true
}

// taken is what is taken with a block in a place, too; and whether one may be there.
func taken(used api.Bits, p place) (api.Bits, bool) {
	if p.state != api.SData {
		return used, p == place{state: api.SReserved}
	}
	was, e := bitmap.Get(used, p.sector)
	if was || e != api.OK {
		return api.Bits{}, false
	}
	used, _ = bitmap.Set(used, p.sector, true)
	return used, true
}
