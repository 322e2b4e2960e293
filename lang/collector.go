package lang

import (
	"maps"
	"slices"

	"primer/api"
	"primer/plain"
)

// A collector has the words of all items, by their lengths. A word is a text with a byte for each terminal, as there are at most 256 of these.
type collector struct {
	items
	sets  [][]map[string]struct{}
	count []int
	over  bool // an item has too many: then a nonterminal has, as each word of a beginning goes on in a way of its own
}

func collect(p plain.Grammar, most int) *collector {
	its := itemsOf(p, most)
	c := collector{items: its, sets: make([][]map[string]struct{}, len(its.most)), count: make([]int, len(its.most))}
	for item, empty := range c.empty {
		c.sets[item] = make([]map[string]struct{}, most+1)
		if empty {
			c.put(item, "")
		}
	}
	for t := range p.Terms {
		c.spread(string([]byte{byte(t)}), len(p.Names)+t)
	}
	for s := range c.splits(most) {
		if c.join(s); c.over {
			break
		}
	}
	return &c
}

func (c *collector) join(s split) {
	for first := range c.sets[s.first][s.head] {
		for second := range c.sets[s.second][s.all-s.head] {
			c.spread(first+second, s.whole)
		}
		if c.over {
			return
		}
	}
}

// spread a word of some items to all that derive what they do.
func (c *collector) spread(word string, from ...int) {
	for _, item := range from {
		if c.put(item, word) {
			c.spread(word, c.above[item]...)
		}
	}
}

// put: does the item take the word, which is new to it?
func (c *collector) put(item int, word string) bool {
	if c.over || len(word) > c.most[item] {
		return false
	}
	set := c.sets[item][len(word)]
	if _, ok := set[word]; ok {
		return false
	}
	if set == nil {
		set = make(map[string]struct{})
		c.sets[item][len(word)] = set
	}
	set[word] = struct{}{}
	c.count[item]++
	c.over = c.count[item] > api.MaxWords
	return true
}

// words of an item, in order.
func (c *collector) words(item int) [][]int {
	var l [][]int
	for _, set := range c.sets[item] {
		for _, word := range slices.Sorted(maps.Keys(set)) {
			l = append(l, terminals(word))
		}
	}
	return l
}

func terminals(word string) []int {
	l := make([]int, len(word))
	for k := range l {
		l[k] = int(word[k])
	}
	return l
}
