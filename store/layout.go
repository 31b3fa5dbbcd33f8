package store

import (
	"saltus/api"
	"saltus/trust"
)

// heads is how many sectors stand ahead of the records.
const heads = 2

// records is how many of them a disk has: of the last flush, and of the one ahead of it or the next one.
const records = 2

// mostBlocks is a disk's greatest quota.
const mostBlocks = 16

// spare is how many sectors there are at least beside those of as many blocks as the quota, for blocks that are written again.
const spare = 8

// The sizes of what a record has, in bytes: of a block's item in the journal, and of the commit behind all of them.
const (
	itemSize   = 34
	commitSize = 10
)

// Layout is a disk's quota of blocks, and how many sectors each of its records has.
func Layout(n int) (int, int, api.Errno) {
	if n < api.MinSectors || n > api.MaxSectors {
		return 0, 0, api.ErrSize
	}
	q := mostBlocks
	// This ends: even the least disk has room for some blocks.
	for firstData(recordSize(q))+q+spare > n {
		q--
	}
	return q, recordSize(q), api.OK
}

// Next is the number of a slot's next flush. Its half is another one than that of the flush ahead of it, whose head and record stay.
func Next(t api.Trust) (uint64, api.Errno) {
	if !isSlot(t) {
		return 0, api.ErrArg
	}
	if bootOf(t.Count) == t.Boots {
		return t.Count + 1, api.OK
	}
	return firstOf(t.Boots) + 1 + t.Count%2, api.OK
}

// isSlot tells whether a slot may be here.
func isSlot(t api.Trust) bool {
	// No other layer tells it of a slot by itself: one that may be is begun, or told that it was begun too often.
	_, e := trust.Boot(t)
	return e != api.ErrArg && bootOf(t.Count) <= t.Boots
}

// bootOf is how often a slot was begun when a number was made, of a flush or a generation.
func bootOf(number uint64) uint64 { return number >> 32 }

// firstOf is what such numbers go on from, where a slot was begun so often.
func firstOf(boots uint64) uint64 { return boots << 32 }

// recordSize is how many sectors a record of so many blocks has.
func recordSize(blocks int) int {
	return (itemSize*blocks + commitSize + api.SealMost - 1) / api.SealMost
}

// firstData is the first sector behind the records, each of so many sectors.
func firstData(size int) int { return heads + records*size }

// headAt is the sector of a flush's head.
func headAt(number uint64) int { return int(number % heads) }

// recordAt is the first sector of a flush's record, of so many sectors.
func recordAt(number uint64, size int) int { return heads + int(number%records)*size }
