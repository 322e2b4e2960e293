package least

import (
	"slices"

	"primer/plain"
)

// A part of a word: the nodes of the least trees of each symbol, and of the rows of trees of each rest.
type part struct {
	symbols []int
	rests   []int
}

// A chart has all parts of one word. A rest is what stands in a right side from some place on, nothing too; it is followed by the rest behind its first symbol.
type chart struct {
	p      plain.Grammar
	size   int // terminals of the word
	parts  []part
	heads  []int // of each rest where its first symbol stands among the symbols; of nothing noSymbol
	wholes []int // of each production the rest that is all of its Right
	empty  []int
	chains [][]int
}

const noSymbol = 0 // stands ahead of the symbols, and has no trees

func newChart(p plain.Grammar, word []int) *chart {
	c := chart{p: p, size: len(word), empty: emptyOf(p)}
	c.chains = chainsOf(p, c.empty)
	for _, prod := range p.Prods {
		c.wholes = append(c.wholes, len(c.heads))
		for _, symbol := range prod.Right {
			c.heads = append(c.heads, c.at(symbol))
		}
		c.heads = append(c.heads, noSymbol)
	}
	for to := range c.size + 1 {
		for range to + 1 {
			c.parts = append(c.parts, c.blank())
		}
		for from := to; from >= 0; from-- { // all that lies within a part is there already
			c.fill(word, from, to)
		}
	}
	return &c
}

// blank: a part of which nothing is known yet.
func (c *chart) blank() part {
	symbols := 1 + len(c.p.Terms) + len(c.p.Names)
	return part{slices.Repeat([]int{none}, symbols), slices.Repeat([]int{none}, len(c.heads)+1)}
}

func (c *chart) part(from, to int) part {
	return c.parts[to*(to+1)/2+from]
}

// at: where a symbol stands among the symbols: the terminals come first, turned round.
func (c *chart) at(symbol int) int {
	return 1 + len(c.p.Terms) + symbol
}

// all: the nodes of the least tree of the word.
func (c *chart) all() int {
	return c.part(0, c.size).symbols[c.at(c.p.Start)]
}

// fill in a part. What its trees are put together of may have all of it, too: so the rests are told first as if no nonterminal had, then chains lead from those nonterminals to all others, then the rests of which one symbol has all of it are told once more.
func (c *chart) fill(word []int, from, to int) {
	switch to - from {
	case 0:
		c.nothing(c.part(from, to))
	case 1:
		c.part(from, to).symbols[c.at(turned(word[from]))] = 1
	}
	c.join(from, to, 1)
	if from < to {
		c.chain(c.part(from, to))
		c.join(from, to, to-from)
	}
}

// nothing: what has no terminals.
func (c *chart) nothing(whole part) {
	copy(whole.symbols[c.at(0):], c.empty)
	for k, head := range c.heads {
		if head == noSymbol {
			whole.rests[k] = 0
		}
	}
}

// join the first symbol of each rest to what is behind it, at places so far from one another. What has all of the part behind an empty one comes last, and from behind, as it is put together of what was told just now.
func (c *chart) join(from, to, step int) {
	nodes := c.part(from, to).rests
	for between := to; between >= from; between -= step {
		first, behind := c.part(from, between).symbols, c.part(between, to).rests
		for k := len(c.heads) - 1; k >= 0; k-- {
			nodes[k] = min(nodes[k], first[c.heads[k]]+behind[k+1])
		}
	}
}

// chain the nonterminals to those whose productions have more than one Kid with terminals, or one that is a terminal.
func (c *chart) chain(whole part) {
	own := slices.Repeat([]int{none}, len(c.p.Names))
	for k, prod := range c.p.Prods {
		own[prod.Left] = min(own[prod.Left], 1+whole.rests[c.wholes[k]])
	}
	for a, chain := range c.chains {
		nodes := none
		for b, more := range chain {
			nodes = min(nodes, more+own[b])
		}
		whole.symbols[c.at(a)] = told(nodes)
	}
}

// turned: the symbol of a terminal.
func turned(t int) int {
	return -1 - t
}
