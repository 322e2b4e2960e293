package lang

import "primer/plain"

// A chart of one word: of each item and each length above 0 the places from which on it derives so many of the word's terminals, a bit each: there are at most 64.
type chart struct {
	items
	size int
	at   [][]uint64
}

func look(p plain.Grammar, word []int) *chart {
	its := itemsOf(p, len(word))
	c := chart{items: its, size: len(word), at: make([][]uint64, len(its.most))}
	for item := range c.at {
		c.at[item] = make([]uint64, c.size+1)
	}
	for place, t := range word {
		c.spread(1, 1<<place, len(p.Names)+t)
	}
	for s := range c.splits(c.size) {
		tails := c.at[s.second][s.all-s.head] >> s.head // each where its head has to begin
		c.spread(s.all, c.at[s.first][s.head]&tails, s.whole)
	}
	return &c
}

// spread places of some items to all that derive what they do.
func (c *chart) spread(length int, places uint64, from ...int) {
	for _, item := range from {
		more := places &^ c.at[item][length]
		if more != 0 && length <= c.most[item] {
			c.at[item][length] |= more
			c.spread(length, more, c.above[item]...)
		}
	}
}

// whole: does an item derive all of the word?
func (c *chart) whole(item int) bool {
	if c.size == 0 {
		return c.empty[item]
	}
	return c.at[item][c.size]&1 == 1
}
