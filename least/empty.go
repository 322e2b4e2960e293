package least

import (
	"slices"

	"primer/plain"
)

// emptyOf: of each nonterminal the nodes of its least tree without terminals.
func emptyOf(p plain.Grammar) []int {
	empty := slices.Repeat([]int{none}, len(p.Names))
	for fewer := true; fewer; {
		fewer = false
		for _, prod := range p.Prods {
			if nodes := withRow(prod.Right, empty); nodes < empty[prod.Left] {
				empty[prod.Left] = nodes
				fewer = true
			}
		}
	}
	return empty
}

// withRow: a node, and below it trees without terminals of these symbols.
func withRow(symbols, empty []int) int {
	nodes := 1
	for _, symbol := range symbols {
		if symbol < 0 {
			return none
		}
		nodes = told(nodes + empty[symbol])
	}
	return nodes
}

// chainsOf: of each two nonterminals how many nodes a tree of the first one has at least beside those of a tree of the second one that has all its terminals.
func chainsOf(p plain.Grammar, empty []int) [][]int {
	chains := make([][]int, len(p.Names))
	for a := range chains {
		chains[a] = slices.Repeat([]int{none}, len(p.Names))
		chains[a][a] = 0
	}
	for _, prod := range p.Prods {
		link(chains[prod.Left], prod.Right, empty)
	}
	for over := range chains {
		for _, chain := range chains {
			if first := chain[over]; first < none {
				for b, second := range chains[over] {
					chain[b] = min(chain[b], told(first+second))
				}
			}
		}
	}
	return chains
}

// link a production's Left to each symbol of its Right by trees without terminals of all others.
func link(chain, right, empty []int) {
	for k, symbol := range right {
		if symbol >= 0 {
			others := slices.Concat(right[:k], right[k+1:])
			chain[symbol] = min(chain[symbol], withRow(others, empty))
		}
	}
}
