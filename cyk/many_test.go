package cyk_test

import (
	"math/big"
	"math/rand/v2"
	"slices"
	"strconv"
	"testing"

	"primer/api"
	"primer/cnf"
	"primer/cyk"
	"primer/lang"
	"primer/plain"
)

// random: a grammar in normal form, with so many chances of a hundred for each production.
func random(r *rand.Rand, count, terms, chances int) cnf.Grammar {
	g := cnf.Grammar{Start: r.IntN(count), Count: count, Terms: terms, Empty: r.IntN(2) == 0}
	for a := range count {
		for t := range terms {
			if r.IntN(100) < 2*chances {
				g.Prods = append(g.Prods, to(a, t-terms))
			}
		}
		for b := range count {
			for c := range count {
				if r.IntN(100) < chances {
					g.Prods = append(g.Prods, to(a, b, c))
				}
			}
		}
	}
	return g
}

func someWord(r *rand.Rand, terms, size int) []int {
	l := make([]int, size)
	for k := range l {
		l[k] = r.IntN(terms)
	}
	return l
}

// A counter counts trees as the document tells them, without an end.
type counter struct {
	g     cnf.Grammar
	word  []int
	known map[[3]int]*big.Int
}

func (c *counter) trees(a, from, end int) *big.Int {
	key := [3]int{a, from, end}
	if n, ok := c.known[key]; ok {
		return n
	}
	sum := big.NewInt(0)
	for _, prod := range c.g.Prods {
		if prod.Left != a {
			continue
		}
		if len(prod.Right) == 1 && end == from+1 && c.word[from] == -1-prod.Right[0] {
			sum = big.NewInt(1)
		}
		for k := from + 1; k < end && len(prod.Right) == 2; k++ {
			n := new(big.Int).Mul(c.trees(prod.Right[0], from, k), c.trees(prod.Right[1], k, end))
			sum = new(big.Int).Add(sum, n)
		}
	}
	c.known[key] = sum
	return sum
}

// told: a count as it is told.
func told(n *big.Int) int {
	if n.Cmp(big.NewInt(api.MaxCount)) > 0 {
		return api.MaxCount
	}
	return int(n.Int64())
}

func TestManyCharts(t *testing.T) {
	r := rand.New(rand.NewPCG(41, 42))
	counts := map[string]int{}
	for range 3000 {
		terms := 1 + r.IntN(3)
		g := random(r, 1+r.IntN(5), terms, 5+r.IntN(40))
		l := someWord(r, terms, 1+r.IntN(9))
		if r.IntN(10) == 0 {
			l = someWord(r, terms, 15+r.IntN(16))
		}
		slow := counter{g, l, map[[3]int]*big.Int{}}
		c := cyk.Make(g, l)
		for from := range len(l) {
			for end := from + 1; end <= len(l); end++ {
				var cell []int
				for a := range g.Count {
					if slow.trees(a, from, end).Sign() > 0 {
						cell = append(cell, a)
					}
					if c.Has(a, from, end) != (slow.trees(a, from, end).Sign() > 0) {
						t.Fatal(g, l, a, from, end)
					}
				}
				if !slices.Equal(c.Cell(from, end), cell) {
					t.Fatal(g, l, from, end, c.Cell(from, end), cell)
				}
			}
		}
		want := told(slow.trees(g.Start, 0, len(l)))
		if c.Trees() != want || c.Yes() != (want > 0) || c.Ambiguous() != (want > 1) {
			t.Fatal(g, l, c.Trees(), want)
		}
		switch {
		case want < 2:
			counts[strconv.Itoa(want)]++
		case want < api.MaxCount:
			counts["several"]++
		default:
			counts["most"]++
		}
	}
	t.Log(counts)
	if min(counts["0"], counts["1"], counts["several"]) < 100 || counts["most"] < 5 {
		t.Error("one-sided charts:", counts)
	}
}

// TestManyStarts: of each nonterminal as the start the trees of each part as the word.
func TestManyStarts(t *testing.T) {
	r := rand.New(rand.NewPCG(43, 44))
	yes := 0
	for range 300 {
		g := random(r, 1+r.IntN(4), 2, 10+r.IntN(30))
		l := someWord(r, 2, 6)
		c := cyk.Make(g, l)
		for from := range l {
			for end := from + 1; end <= len(l); end++ {
				for a := range g.Count {
					g.Start = a
					part := cyk.Make(g, l[from:end])
					if part.Yes() != c.Has(a, from, end) {
						t.Fatal(g, l, a, from, end)
					}
					if part.Yes() {
						yes++
					}
				}
			}
		}
	}
	if yes < 1000 {
		t.Error("one-sided parts:", yes)
	}
}

// source: a plain grammar of any productions.
func source(r *rand.Rand) plain.Grammar {
	names, terms := 1+r.IntN(4), 1+r.IntN(2)
	p := plain.Grammar{Start: r.IntN(names)}
	for k := range terms {
		p.Terms = append(p.Terms, string(rune('x'+k)))
	}
	for left := range names {
		p.Names = append(p.Names, string(rune('a'+left)))
		for range r.IntN(4) {
			prod := to(left)
			for range r.IntN(5) {
				prod.Right = append(prod.Right, r.IntN(names+terms)-terms)
			}
			p.Prods = append(p.Prods, prod)
		}
	}
	return p
}

// TestManySources: yes just where the start of the grammar that the normal form is of derives the word.
func TestManySources(t *testing.T) {
	r := rand.New(rand.NewPCG(45, 46))
	yes, no := 0, 0
	for range 3000 {
		p := source(r)
		g, err := cnf.Build(p)
		if err != api.OK {
			t.Fatal(plain.Lines(p), err)
		}
		for size := range 6 {
			l := someWord(r, len(p.Terms), size)
			want := lang.Derives(p, l)
			if got := cyk.Make(g, l); got.Yes() != want {
				t.Fatal(plain.Lines(p), p.Start, l, want)
			}
			if want && size > 1 {
				yes++
			} else if size > 1 {
				no++
			}
		}
	}
	if yes < 1000 || no < 1000 {
		t.Error("one-sided words:", yes, no)
	}
}
