package lang

import (
	"iter"
	"slices"

	"primer/facts"
	"primer/plain"
)

// A joint: its whole derives what its first item does and, behind it, what its second one does.
type joint struct{ first, second, whole int }

// A split of a joint's words of all terminals: the first item has so many of them, at least one, and not all.
type split struct {
	joint
	head, all int
}

// items: what derives parts of words: the nonterminals, then the terminals, then the beginnings of longer right sides.
type items struct {
	nonterminals int
	joints       []joint
	above        [][]int // of each item those that derive whatever it does
	empty        []bool  // of each item whether it derives the empty word
	most         []int   // of each item how long its words may be: a beginning's leave room for what has to follow
	shortest     []int   // of each nonterminal
}

// itemsOf those productions that stand in a derivation from the start.
func itemsOf(p plain.Grammar, most int) items {
	p = live(p)
	its := items{nonterminals: len(p.Names), shortest: facts.Shortest(p)}
	for _, empty := range facts.Nullable(p) {
		its.add(empty, most)
	}
	for range p.Terms {
		its.add(false, most)
	}
	for _, prod := range p.Prods {
		its.lay(prod, most)
	}
	return its
}

// live: the grammar without the productions that stand in no derivation of a word from the start.
func live(p plain.Grammar) plain.Grammar {
	generating := facts.Generating(p)
	barren := func(symbol int) bool { return symbol >= 0 && !generating[symbol] }
	p.Prods = slices.DeleteFunc(slices.Clone(p.Prods), func(prod plain.Prod) bool { return slices.ContainsFunc(prod.Right, barren) })
	reachable := facts.Reachable(p)
	p.Prods = slices.DeleteFunc(p.Prods, func(prod plain.Prod) bool { return !reachable[prod.Left] })
	return p
}

// add: the next item.
func (its *items) add(empty bool, most int) int {
	its.above = append(its.above, nil)
	its.empty = append(its.empty, empty)
	its.most = append(its.most, most)
	return len(its.most) - 1
}

// lay a production: its right side grows symbol by symbol, up to all of it, which is its left side's.
func (its *items) lay(prod plain.Prod, most int) {
	if len(prod.Right) == 0 {
		return // its left side is known to derive the empty word
	}
	room := most
	for _, symbol := range prod.Right[1:] {
		room -= its.least(symbol)
	}
	at, last := its.of(prod.Right[0]), len(prod.Right)-1
	for k, symbol := range prod.Right[1:] {
		next, whole := its.of(symbol), prod.Left
		if room += its.least(symbol); k+1 < last {
			whole = its.add(its.empty[at] && its.empty[next], room)
		}
		its.join(joint{at, next, whole})
		at = whole
	}
	if last == 0 {
		its.above[at] = append(its.above[at], prod.Left)
	}
}

func (its *items) join(j joint) {
	its.joints = append(its.joints, j)
	if its.empty[j.second] {
		its.above[j.first] = append(its.above[j.first], j.whole)
	}
	if its.empty[j.first] {
		its.above[j.second] = append(its.above[j.second], j.whole)
	}
}

// of: the item of a symbol.
func (its *items) of(symbol int) int {
	if symbol < 0 {
		return its.nonterminals - 1 - symbol
	}
	return symbol
}

// least: how many terminals a symbol has at least.
func (its *items) least(symbol int) int {
	if symbol < 0 {
		return 1
	}
	return its.shortest[symbol]
}

// splits of all joints by rising lengths: so the parts of each are known when it comes.
func (its *items) splits(most int) iter.Seq[split] {
	return func(yield func(split) bool) {
		for all := 2; all <= most; all++ {
			for _, j := range its.joints {
				for head := 1; head < all && all <= its.most[j.whole]; head++ {
					if !yield(split{j, head, all}) {
						return
					}
				}
			}
		}
	}
}
