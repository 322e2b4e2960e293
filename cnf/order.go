package cnf

import (
	"cmp"
	"slices"

	"primer/plain"
)

func compare(a, b plain.Prod) int {
	return cmp.Or(cmp.Compare(a.Left, b.Left), compareRights(a, b))
}

func compareRights(a, b plain.Prod) int {
	return slices.Compare(a.Right, b.Right)
}

func inOrder(prods []plain.Prod) bool {
	for k := 1; k < len(prods); k++ {
		if compare(prods[k-1], prods[k]) >= 0 {
			return false
		}
	}
	return true
}

// ordered puts productions in order, and tells those that aren't the same as one ahead: cut so that nobody comes to the room that is left behind them.
func ordered(prods []plain.Prod) []plain.Prod {
	slices.SortFunc(prods, compare)
	kept := 0
	for _, prod := range prods {
		if kept == 0 || compare(prods[kept-1], prod) != 0 {
			prods[kept] = prod
			kept++
		}
	}
	return prods[:kept:kept]
}

// byRights sorts productions, and tells those with the same right side together.
func byRights(prods []plain.Prod) [][]plain.Prod {
	slices.SortFunc(prods, compareRights)
	var l [][]plain.Prod
	from := 0
	for k := range prods {
		if k+1 == len(prods) || compareRights(prods[k], prods[k+1]) != 0 {
			l = append(l, prods[from:k+1:k+1])
			from = k + 1
		}
	}
	return l
}

func copied(prods []plain.Prod) []plain.Prod {
	var l []plain.Prod
	for _, prod := range prods {
		l = append(l, plain.Prod{Left: prod.Left, Right: slices.Clone(prod.Right)})
	}
	return l
}
