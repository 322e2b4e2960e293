package facts_test

import (
	"math/rand/v2"
	"slices"
	"strconv"
	"testing"

	"primer/api"
	"primer/facts"
	"primer/plain"
)

func random(r *rand.Rand) plain.Grammar {
	var p plain.Grammar
	for k := range 1 + r.IntN(6) {
		p.Names = append(p.Names, string(rune('A'+k)))
	}
	for k := range r.IntN(4) {
		p.Terms = append(p.Terms, string(rune('a'+k)))
	}
	p.Start = r.IntN(len(p.Names))
	for left := range p.Names {
		for range r.IntN(4) {
			prod := plain.Prod{Left: left}
			for range r.IntN(4) {
				prod.Right = append(prod.Right, r.IntN(len(p.Names)+len(p.Terms))-len(p.Terms))
			}
			p.Prods = append(p.Prods, prod)
		}
	}
	return p
}

// ways: of each nonterminal, between which of a machine's three states its words lead, when a word's first terminal leads from 0 to 1, where it is the one that is looked for, else to 2, and all others lead from each of these to itself.
type ways [3][3]bool

func waysOf(p plain.Grammar, looked int) []ways {
	l := make([]ways, len(p.Names))
	for {
		before := slices.Clone(l)
		for _, prod := range p.Prods {
			whole := ways{{true}, {false, true}, {false, false, true}}
			for _, symbol := range prod.Right {
				step := ways{{false, -1-symbol == looked, -1-symbol != looked}, {false, true}, {false, false, true}}
				if symbol >= 0 {
					step = l[symbol]
				}
				whole = behind(whole, step)
			}
			for from := range whole {
				for to, yes := range whole[from] {
					l[prod.Left][from][to] = l[prod.Left][from][to] || yes
				}
			}
		}
		if slices.Equal(before, l) {
			return l
		}
	}
}

func behind(a, b ways) ways {
	var all ways
	for from := range 3 {
		for over := range 3 {
			for to := range 3 {
				all[from][to] = all[from][to] || a[from][over] && b[over][to]
			}
		}
	}
	return all
}

// closure: which come to which, by one step or more.
func closure(size int, step func(from, to int) bool) [][]bool {
	comes := make([][]bool, size)
	for from := range comes {
		comes[from] = make([]bool, size)
		for to := range size {
			comes[from][to] = step(from, to)
		}
	}
	for over := range size {
		for from := range size {
			for to := range size {
				comes[from][to] = comes[from][to] || comes[from][over] && comes[over][to]
			}
		}
	}
	return comes
}

// slowShortest: of trees that are no higher than there are nonterminals.
func slowShortest(p plain.Grammar) []int {
	lengths := slices.Repeat([]int{-1}, len(p.Names))
	for range p.Names {
		next := slices.Clone(lengths)
		for _, prod := range p.Prods {
			sum := 0
			for _, symbol := range prod.Right {
				n := 1
				if symbol >= 0 {
					n = lengths[symbol]
				}
				if n < 0 {
					sum = -1
					break
				}
				sum += n
			}
			if sum >= 0 && (next[prod.Left] < 0 || sum < next[prod.Left]) {
				next[prod.Left] = sum
			}
		}
		lengths = next
	}
	return lengths
}

func TestManyGrammars(t *testing.T) {
	r := rand.New(rand.NewPCG(21, 22))
	var nullable, barren, loops, far int
	for range 20000 {
		p := random(r)
		of := waysOf(p, -1)
		reach := closure(len(p.Names), func(from, to int) bool {
			return slices.ContainsFunc(p.Prods, func(prod plain.Prod) bool { return prod.Left == from && slices.Contains(prod.Right, to) })
		})
		empty := func(symbol int) bool { return symbol >= 0 && of[symbol][0][0] }
		loop := closure(len(p.Names), func(from, to int) bool {
			for _, prod := range p.Prods {
				for at, symbol := range prod.Right {
					others := slices.Concat(prod.Right[:at], prod.Right[at+1:])
					full := func(symbol int) bool { return !empty(symbol) }
					if prod.Left == from && symbol == to && !slices.ContainsFunc(others, full) {
						return true
					}
				}
			}
			return false
		})
		nulls, gens, reached, looped, shortest := facts.Nullable(p), facts.Generating(p), facts.Reachable(p), facts.Loops(p), facts.Shortest(p)
		if !slices.Equal(shortest, slowShortest(p)) || len(nulls) != len(p.Names) || len(gens) != len(p.Names) || len(looped) != len(p.Names) {
			t.Fatal(p, shortest)
		}
		for a := range p.Names {
			if nulls[a] != of[a][0][0] || gens[a] != of[a][1][1] || reached[a] != (a == p.Start || reach[p.Start][a]) || looped[a] != loop[a][a] {
				t.Fatal(p, a, nulls, gens, reached, looped)
			}
			nullable, barren, loops, far = nullable+one(nulls[a]), barren+one(!gens[a]), loops+one(looped[a]), far+one(!reached[a])
		}
		wantFirst(t, p)
	}
	if min(nullable, barren, loops, far) < 5000 {
		t.Error("one-sided grammars:", nullable, barren, loops, far)
	}
}

func one(yes bool) int {
	if yes {
		return 1
	}
	return 0
}

func wantFirst(t *testing.T, p plain.Grammar) {
	t.Helper()
	want := make([][]int, len(p.Names))
	for term := range p.Terms {
		for a, of := range waysOf(p, term) {
			if of[0][1] {
				want[a] = append(want[a], term)
			}
		}
	}
	if got := facts.First(p); !slices.EqualFunc(got, want, slices.Equal[[]int]) {
		t.Fatal(p, got, want)
	}
}

// TestLargeGrammars: as many as may be of all.
func TestLargeGrammars(t *testing.T) {
	r := rand.New(rand.NewPCG(23, 24))
	for range 20 {
		var p plain.Grammar
		for k := range api.MaxProds {
			p.Names = append(p.Names, "n"+strconv.Itoa(k))
			p.Terms = append(p.Terms, "t"+strconv.Itoa(k))
		}
		for k := range api.MaxProds {
			prod := plain.Prod{Left: k}
			for range r.IntN(api.MaxSide + 1) {
				prod.Right = append(prod.Right, r.IntN(2*api.MaxProds)-api.MaxProds)
			}
			p.Prods = append(p.Prods, prod)
		}
		if len(facts.Nullable(p)) != api.MaxProds || len(facts.Reachable(p)) != api.MaxProds || len(facts.Loops(p)) != api.MaxProds || !slices.Equal(facts.Shortest(p), slowShortest(p)) {
			t.Fatal(p)
		}
		wantFirst(t, p)
	}
}
