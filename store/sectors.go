package store

import (
	"saltus/api"
	"saltus/device"
	"saltus/seal"
	"saltus/trust"
)

// The names of a slot's keys: of what is sealed, of the heights that labels hang on, and of what records are chained by.
const (
	sectorsKey = "sectors"
	heightsKey = "heights"
	recordsKey = "records"
)

// noBlock is the logical number of a sector that has no block's bytes.
const noBlock = 0

// keyOf is a slot's key for a name: both may be.
func keyOf(t api.Trust, name string) string {
	key, _ := trust.Derive(t, name)
	return key
}

// nextGen is a generation that was never used: those of an earlier beginning are less, and of this one no more are used than sectors were sealed.
func nextGen(v api.Vol) uint64 { return firstOf(v.Trust.Boots) + v.Seq + 1 }

// put seals data to a sector, and tells with which generation.
func put(v *api.Vol, kind, at int, logical uint64, data string) uint64 {
	gen := nextGen(*v)
	text, _ := seal.Seal(keyOf(v.Trust, sectorsKey), kind, at, gen, logical, data)
	write(v, at, text)
	v.Seq++
	return gen
}

// opened is a sector's generation, and its data, and whether it opens.
func opened(v api.Vol, kind, at int, logical uint64) (uint64, string, bool) {
	text, _ := device.Read(v.Dev, at)
	gen, data, e := seal.Open(keyOf(v.Trust, sectorsKey), kind, at, logical, text)
	return gen, data, e == api.OK
}

// openedOf is the data of a sector, and whether it opens with a generation.
func openedOf(v api.Vol, kind, at int, logical, gen uint64) (string, bool) {
	own, data, is := opened(v, kind, at, logical)
	if !is || own != gen {
		return "", false
	}
	return data, true
}
