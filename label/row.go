package label

import (
	"slices"

	"saltus/api"
	"saltus/sha"
	"saltus/tower"
)

// headHeight is more than each level, so that each row begins with the head's label.
const headHeight = api.Levels + 1

// row is a level's labels, and how high stands what each of them begins with: the head, or an item.
type row struct {
	labels  []string
	heights []int
}

// firstRow is that of level 0, of a list that may be.
func firstRow(key string, l []api.Item) row {
	labels := []string{sha.Sum(headMark)}
	numbers := make([]uint64, len(l))
	for at, x := range l {
		labels = append(labels, leaf(x))
		numbers[at] = x.Key
	}
	return row{labels, append([]int{headHeight}, tower.Heights(key, numbers)...)}
}

// nextRow is the row of a level, made of the one of the level below.
func nextRow(r row, level int) row {
	places := higher(r.heights, level)
	var next row
	for _, group := range cut(r.labels, places) {
		next.labels = append(next.labels, joined(level, group))
	}
	for _, group := range cut(r.heights, places) {
		next.heights = append(next.heights, group[0])
	}
	return next
}

// higher are the places, rising, of the heights that are more than a level.
func higher(heights []int, level int) []int {
	var places []int
	for at, height := range heights {
		if height > level {
			places = append(places, at)
		}
	}
	return places
}

// cut are a list's pieces: from each of some rising places on, up to ahead of the next one.
func cut[T any](l []T, places []int) [][]T {
	pieces := make([][]T, len(places))
	end := len(l)
	for i, from := range slices.Backward(places) {
		pieces[i] = l[from:end]
		end = from
	}
	return pieces
}
