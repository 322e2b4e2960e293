package facts

import (
	"slices"

	"primer/api"
	"primer/plain"
)

const noWord = -1 // the length of a shortest word that there isn't

// Shortest: the length of the shortest word that each derives; -1.
func Shortest(p plain.Grammar) []int {
	if !plain.Sound(p) {
		return nil
	}
	lengths := slices.Repeat([]int{noWord}, len(p.Names))
	for shorter := true; shorter; {
		shorter = false
		for _, prod := range p.Prods {
			n := shortestRow(prod.Right, lengths)
			if before := lengths[prod.Left]; n != noWord && (before == noWord || n < before) {
				lengths[prod.Left] = n
				shorter = true
			}
		}
	}
	return lengths
}

// shortestRow of symbols, one behind the other, as far as the nonterminals' lengths are known.
func shortestRow(symbols, lengths []int) int {
	sum := 0
	for _, symbol := range symbols {
		n := shortestOf(symbol, lengths)
		if n == noWord {
			return noWord
		}
		sum = min(sum+n, api.MaxCount)
	}
	return sum
}

func shortestOf(symbol int, lengths []int) int {
	if symbol < 0 {
		return 1
	}
	return lengths[symbol]
}
