package cyk

import "primer/plain"

// rules are a grammar's productions, as a chart asks for them: many have the same pair of nonterminals, whose trees are then counted once.
type rules struct {
	terms   map[int][]int  // of each terminal who has a production of it
	seconds map[int][]pair // of each nonterminal the pairs that it is the first of
	lefts   [][]int        // of each pair who has a production of it
	places  map[int]int    // of each nonterminal that is a second one: in row
	row     []int          // trees of second ones, while parts are joined: a map would be asked too often
}

// A pair of nonterminals: the second one's place in the row, and the pair's number.
type pair struct {
	second, number int
}

func newRules(prods []plain.Prod) *rules {
	r := rules{terms: make(map[int][]int), seconds: make(map[int][]pair), places: make(map[int]int)}
	numbers := make(map[[2]int]int)
	for _, prod := range prods {
		if len(prod.Right) == 1 {
			t := -1 - prod.Right[0]
			r.terms[t] = append(r.terms[t], prod.Left)
			continue
		}
		both := [2]int(prod.Right)
		n, ok := numbers[both]
		if !ok {
			n = len(r.lefts)
			numbers[both] = n
			r.lefts = append(r.lefts, nil)
			r.seconds[both[0]] = append(r.seconds[both[0]], pair{r.second(both[1]), n})
		}
		r.lefts[n] = append(r.lefts[n], prod.Left)
	}
	return &r
}

// second: the place of a nonterminal in the row; a new one, where it has none.
func (r *rules) second(symbol int) int {
	place, ok := r.places[symbol]
	if !ok {
		place = len(r.row)
		r.places[symbol] = place
		r.row = append(r.row, 0)
	}
	return place
}

func (r *rules) ofTerminal(t int) cell {
	c := make(cell)
	for _, left := range r.terms[t] {
		c[left] = 1
	}
	return c
}

// join adds to each pair's trees those of two parts, one behind the other.
func (r *rules) join(sums []int, ahead, behind cell) {
	if len(ahead) == 0 || len(behind) == 0 {
		return
	}
	r.lay(behind)
	for first, x := range ahead {
		for _, p := range r.seconds[first] {
			if y := r.row[p.second]; y > 0 {
				sums[p.number] = plus(sums[p.number], times(x, y))
			}
		}
	}
	clear(r.row)
}

// lay the trees of a part into the row.
func (r *rules) lay(c cell) {
	for symbol, trees := range c {
		if place, ok := r.places[symbol]; ok {
			r.row[place] = trees
		}
	}
}

func (r *rules) ofPairs(sums []int) cell {
	c := make(cell)
	for n, sum := range sums {
		if sum == 0 {
			continue
		}
		for _, left := range r.lefts[n] {
			c[left] = plus(c[left], sum)
		}
	}
	return c
}
