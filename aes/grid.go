package aes

// The sizes, in columns and in bytes.
const (
	columns   = 4
	blockSize = columns * wordSize
)

// grid is a block, column by column: row r has byte r of each.
type grid [columns]word

func gridOf(block string) grid {
	var g grid
	for c := range g {
		g[c] = wordOf(block[c*wordSize:])
	}
	return g
}

// told are the grid's bytes.
func (g grid) told() string {
	b := make([]byte, 0, blockSize)
	for _, w := range g {
		b = append(b, w[:]...)
	}
	return string(b)
}

// round is what its steps are taken with: its key, and the boxes of all bytes. Not each step needs them.
type round struct {
	key   grid
	boxes []byte
}

// step is one of those that a round is made of.
type step func(g grid, r *round) grid

func (g grid) boxed(r *round) grid {
	for c, w := range g {
		g[c] = w.boxed(r.boxes)
	}
	return g
}

func (g grid) turned(*round) grid {
	var next grid
	for c := range next {
		for row := range next[c] {
			next[c][row] = g[(c+row)%columns][row]
		}
	}
	return next
}

func (g grid) mixed(*round) grid {
	for c, w := range g {
		g[c] = w.mixed()
	}
	return g
}

func (g grid) keyed(r *round) grid {
	for c, w := range g {
		g[c] = w.xor(r.key[c])
	}
	return g
}

// steps are those of round i, up to the last one.
func steps(i, last int) []step {
	switch i {
	case 0:
		return []step{grid.keyed}
	case last:
		return []step{grid.boxed, grid.turned, grid.keyed}
	}
	return []step{grid.boxed, grid.turned, grid.mixed, grid.keyed}
}

// encrypted is a block behind all rounds, one for each key.
func (g grid) encrypted(keys []grid, boxes []byte) grid {
	for i, key := range keys {
		r := &round{key: key, boxes: boxes}
		for _, s := range steps(i, len(keys)-1) {
			g = s(g, r)
		}
	}
	return g
}
