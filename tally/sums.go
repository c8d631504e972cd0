package tally

import (
	"maps"
	"slices"
	"strings"

	"sluice/api"
)

// sums has what is told of each path, by the path.
type sums map[string]api.Sum

func (s sums) addNumber(path string, number int64) {
	s.add(api.Sum{Path: path, Count: 1, Total: number})
}

func (s sums) add(more api.Sum) {
	sum := s[more.Path]
	sum.Path = more.Path
	sum.Count += more.Count
	sum.Total += more.Total
	s[more.Path] = sum
}

func together(found []sums) sums {
	all := sums{}
	for _, some := range found {
		for _, sum := range some {
			all.add(sum)
		}
	}
	return all
}

func (s sums) sorted() []api.Sum {
	return slices.SortedFunc(maps.Values(s), func(a, b api.Sum) int { return strings.Compare(a.Path, b.Path) })
}
