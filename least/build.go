package least

import "primer/tree"

// tree: the least one of a symbol and a part, of so few nodes that none of what it is put together of was cut to MaxCount.
func (c *chart) tree(symbol, from, to int) tree.Tree {
	if symbol < 0 {
		return tree.Tree{Prod: symbol}
	}
	t := tree.Tree{Prod: c.prod(symbol, c.part(from, to))}
	for k, kid := range c.p.Prods[t.Prod].Right {
		end := c.end(c.wholes[t.Prod]+k, from, to)
		t.Kids = append(t.Kids, c.tree(kid, from, end))
		from = end
	}
	return t
}

// prod: the first production that leaves a nonterminal as few nodes as may be.
func (c *chart) prod(left int, whole part) int {
	nodes := whole.symbols[c.at(left)]
	k := 0
	for c.p.Prods[k].Left != left || 1+whole.rests[c.wholes[k]] != nodes {
		k++
	}
	return k
}

// end of the part of a rest's first symbol: the first one that leaves the rest as few nodes as may be.
func (c *chart) end(rest, from, to int) int {
	nodes := c.part(from, to).rests[rest]
	end := from
	for c.part(from, end).symbols[c.heads[rest]]+c.part(end, to).rests[rest+1] != nodes {
		end++
	}
	return end
}
