package proof

import "saltus/api"

// headHeight is more than each level, so that each row begins with the head's label, and the first group with it.
const headHeight = api.Levels + 1

// group are places in a level's row: of the label that an item has there, and from which one on, up to ahead of which one, labels are joined with it.
type group struct{ from, place, end int }

// groupOf is the group, on a level, of the item at a place among some heights.
func groupOf(heights []int, at, level int) group {
	row := standing(heights, level)
	// Of the items up to the place, the last one in the row has the label; without one there, the head.
	place := len(standing(heights[:at+1], level)) - 1
	g := group{from: place, place: place, end: place + 1}
	for row[g.from] <= level+1 {
		g.from--
	}
	for g.end < len(row) && row[g.end] <= level+1 {
		g.end++
	}
	return g
}

// standing is how high stands what each label of a level's row begins with: the head, and the items that are higher.
func standing(heights []int, level int) []int {
	row := []int{headHeight}
	for _, height := range heights {
		if height > level {
			row = append(row, height)
		}
	}
	return row
}
