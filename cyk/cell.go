package cyk

import (
	"math/bits"

	"primer/api"
)

// A cell has all who derive a part, each with its trees.
type cell map[int]int

func (c *Chart) place(from, to int) int {
	return from*c.size + to - 1
}

// part: the cell of a part; none, where there is no such part.
func (c *Chart) part(from, to int) cell {
	if c == nil || from < 0 || from >= to || to > c.size {
		return nil
	}
	return c.cells[c.place(from, to)]
}

func (c *Chart) fill(r *rules, word []int, from, to int) cell {
	if to-from == 1 {
		return r.ofTerminal(word[from])
	}
	sums := make([]int, len(r.lefts))
	for between := from + 1; between < to; between++ {
		r.join(sums, c.part(from, between), c.part(between, to))
	}
	return r.ofPairs(sums)
}

// plus and times go no further than MaxCount: of numbers from 0 on it doesn't matter then what is added first.
func plus(a, b int) int {
	return min(a+b, api.MaxCount)
}

func times(a, b int) int {
	high, low := bits.Mul64(uint64(a), uint64(b))
	if high > 0 {
		return api.MaxCount
	}
	return int(min(low, api.MaxCount))
}
