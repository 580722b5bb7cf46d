// Package rank: names in an order by what is told of each.
package rank

import (
	"cmp"
	"slices"

	"ballast/ratio"
)

// Mark is what is told of one name.
type Mark struct {
	Name  string
	Soft  int
	Score float64
}

// Names go by fewer Soft, then by Score (pack: the greater first; else the lesser), then by Name.
func Names(l []Mark, pack bool) []string {
	sorted := slices.SortedFunc(slices.Values(l), func(a, b Mark) int { return compare(a, b, pack) })
	var names []string
	for _, m := range sorted {
		names = append(names, m.Name)
	}
	return names
}

func compare(a, b Mark, pack bool) int {
	return cmp.Or(cmp.Compare(a.Soft, b.Soft), compareScores(a.Score, b.Score, pack), cmp.Compare(a.Name, b.Name))
}

func compareScores(x, y float64, pack bool) int {
	if pack {
		// The whole order is turned round: what is no number is ahead of all then.
		return ratio.Compare(y, x)
	}
	return ratio.Compare(x, y)
}
