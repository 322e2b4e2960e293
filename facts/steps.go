package facts

import "primer/plain"

// stepsOf: to which symbols one goes from each nonterminal, when a production goes to those that goes tells of its right side.
func stepsOf(p plain.Grammar, goes func(right []int) []int) [][]int {
	steps := make([][]int, len(p.Names))
	for _, prod := range p.Prods {
		steps[prod.Left] = append(steps[prod.Left], goes(prod.Right)...)
	}
	return steps
}

// spread: the symbols that one comes to from some, these too.
func spread(steps [][]int, from ...int) map[int]struct{} {
	met := make(map[int]struct{})
	todo := append([]int(nil), from...)
	for len(todo) > 0 {
		symbol := todo[len(todo)-1]
		todo = todo[:len(todo)-1]
		if _, ok := met[symbol]; ok {
			continue
		}
		met[symbol] = struct{}{}
		if symbol >= 0 {
			todo = append(todo, steps[symbol]...)
		}
	}
	return met
}

// lonely: the symbols of a right side all of whose others derive the empty word: all, when each symbol does, or the only one that doesn't.
func lonely(right []int, nullable []bool) []int {
	var full []int
	for _, symbol := range right {
		if symbol < 0 || !nullable[symbol] {
			full = append(full, symbol)
		}
	}
	switch len(full) {
	case 0:
		return right
	case 1:
		return full
	}
	return nil
}

// ahead: the symbols with whose words those of a right side may begin; none, when it has no words.
func ahead(right, shortest []int) []int {
	if shortestRow(right, shortest) == noWord {
		return nil
	}
	for k, symbol := range right {
		if shortestOf(symbol, shortest) > 0 {
			return right[:k+1]
		}
	}
	return right
}
