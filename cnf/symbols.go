package cnf

import (
	"slices"

	"primer/plain"
)

const mostLeftOut = 16 // symbols of a right side of which some are left out

// A spread has nonterminals, each once, in the order in which they were met.
type spread struct {
	list []int
	met  map[int]struct{}
}

func (s *spread) add(n int) {
	if !s.has(n) {
		s.met[n] = struct{}{}
		s.list = append(s.list, n)
	}
}

func (s *spread) has(n int) bool {
	_, ok := s.met[n]
	return ok
}

func newSpread() *spread {
	return &spread{met: make(map[int]struct{})}
}

// nullable: who derives the empty word. Each production waits for as many of its symbols as aren't met yet, so that none is looked at again and again.
func nullable(prods []plain.Prod) *spread {
	waits := make([]int, len(prods))
	users := make(map[int][]int) // the productions in which a symbol stands, as often as it does
	empty := newSpread()
	for k, prod := range prods {
		waits[k] = len(prod.Right)
		for _, symbol := range prod.Right {
			users[symbol] = append(users[symbol], k)
		}
		if waits[k] == 0 {
			empty.add(prod.Left)
		}
	}
	for at := 0; at < len(empty.list); at++ { // the list grows on the way
		for _, k := range users[empty.list[at]] {
			waits[k]--
			if waits[k] == 0 {
				empty.add(prods[k].Left)
			}
		}
	}
	return empty
}

// comers: who comes by units to a left side of some productions, these too.
func comers(above map[int][]int, prods []plain.Prod) []int {
	s := newSpread()
	for _, prod := range prods {
		s.add(prod.Left)
	}
	for at := 0; at < len(s.list); at++ { // the list grows on the way
		for _, left := range above[s.list[at]] {
			s.add(left)
		}
	}
	return s.list
}

func isUnit(prod plain.Prod) bool {
	return len(prod.Right) == 1 && prod.Right[0] >= 0
}

// beside: the terminals' symbols that stand in right sides of two symbols or more, each once, by rising terminals.
func beside(prods []plain.Prod) []int {
	var l []int
	for _, prod := range prods {
		for _, symbol := range prod.Right {
			if symbol < 0 && len(prod.Right) > 1 {
				l = append(l, symbol)
			}
		}
	}
	slices.Sort(l)
	l = slices.Compact(l)
	slices.Reverse(l) // rising terminals are falling symbols
	return l
}

func replace(right []int, stands map[int]int) {
	for k, symbol := range right {
		if n, ok := stands[symbol]; ok {
			right[k] = n
		}
	}
}

// shorter: what comes of leaving out symbols of a right side that derive the empty word, each once.
func shorter(right []int, empty *spread) [][]int {
	if len(right) > mostLeftOut {
		return [][]int{slices.Clone(right)}
	}
	begun := [][]int{nil}
	for _, symbol := range right {
		var on [][]int
		for _, b := range begun {
			on = append(on, append(b[:len(b):len(b)], symbol)) // cut, so that what goes on without the symbol doesn't share its room
		}
		if empty.has(symbol) {
			on = slices.SortedFunc(slices.Values(append(on, begun...)), slices.Compare)
			on = slices.CompactFunc(on, slices.Equal)
		}
		begun = on
	}
	return begun
}
