package model

import (
	"cmp"
	"iter"
	"slices"
	"strings"

	"saltus/api"
	"saltus/span"
)

// change tells what becomes of one block, of which some bytes are in a span. Holes are cells here, too: of state SHole, without bytes.
type change func(c api.Cell, in api.Span) api.Cell

// changed are cells with each block that a span meets changed.
func changed(l []api.Cell, s api.Span, by change) ([]api.Cell, api.Errno) {
	if e := check(l, s); e != api.OK {
		return nil, e
	}
	then := slices.Clone(l)
	for n, in := range met(s) {
		then = put(then, by(cellAt(then, n), in))
	}
	return then, api.OK
}

// changedWithin are cells that are changed: ErrSpace, if they become more, and then are more than a quota or than there may be.
func changedWithin(quota int, l []api.Cell, s api.Span, by change) ([]api.Cell, api.Errno) {
	then, e := changed(l, s, by)
	if e != api.OK {
		return nil, e
	}
	if len(then) > len(l) && len(then) > min(quota, api.MaxRuns) {
		return nil, api.ErrSpace
	}
	return then, api.OK
}

// met are the blocks that a span, which may be, meets: each one's number, and which of its bytes are in the span.
func met(s api.Span) iter.Seq2[uint64, api.Span] {
	return func(yield func(uint64, api.Span) bool) {
		// Neither has an error: the span may be, and each block of its cover has bytes of it.
		cover, _ := span.Cover(s, api.BlockSize)
		for i := range cover.Len {
			n := cover.From + i
			in, _ := span.Cut(s, api.Span{From: n * api.BlockSize, Len: api.BlockSize})
			if !yield(n, in) {
				return
			}
		}
	}
}

// placeOf is where in its block a span of bytes of one block begins.
func placeOf(in api.Span) uint64 { return in.From % api.BlockSize }

// isWhole tells whether a span of bytes of one block is all of them.
func isWhole(in api.Span) bool { return in.Len == api.BlockSize }

// bytesOf are a block's bytes.
func bytesOf(c api.Cell) string {
	if c.State == api.SData {
		return c.Data
	}
	return zeros(api.BlockSize)
}

// zeros are so many bytes 0.
func zeros(many int) string { return strings.Repeat("\x00", many) }

// dataCell is a block as data: its bytes, with a text in a span's place.
func dataCell(c api.Cell, in api.Span, text string) api.Cell {
	b := []byte(bytesOf(c))
	copy(b[placeOf(in):], text)
	return api.Cell{N: c.N, State: api.SData, Data: string(b)}
}

// cleared is a block of whose bytes, if it is data, those of a span are 0.
func cleared(c api.Cell, in api.Span) api.Cell {
	if c.State != api.SData {
		return c
	}
	return dataCell(c, in, zeros(int(in.Len)))
}

// cellAt is a block's cell: one of state SHole, if it has none.
func cellAt(l []api.Cell, n uint64) api.Cell {
	if at, is := find(l, n); is {
		return l[at]
	}
	return api.Cell{N: n, State: api.SHole}
}

// put has a cell stand in the place of its block's one; a hole takes that away. It changes the list that it is handed.
func put(l []api.Cell, c api.Cell) []api.Cell {
	at, is := find(l, c.N)
	end := at
	if is {
		end++
	}
	if c.State == api.SHole {
		return slices.Delete(l, at, end)
	}
	return slices.Replace(l, at, end, c)
}

// find is the place of a block's cell, or the one where it would stand; and whether it is there.
func find(l []api.Cell, n uint64) (int, bool) {
	return slices.BinarySearchFunc(l, n, func(c api.Cell, n uint64) int { return cmp.Compare(c.N, n) })
}
