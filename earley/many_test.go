package earley_test

import (
	"math/rand/v2"
	"slices"
	"strconv"
	"testing"

	"primer/earley"
	"primer/facts"
	"primer/lang"
	"primer/plain"
)

func random(r *rand.Rand, names, terms, rows, wide int) plain.Grammar {
	var p plain.Grammar
	for k := range names {
		p.Names = append(p.Names, "N"+strconv.Itoa(k))
	}
	for k := range terms {
		p.Terms = append(p.Terms, string(rune('a'+k)))
	}
	p.Start = r.IntN(names)
	for left := range names {
		for range r.IntN(rows + 1) {
			prod := to(left)
			for range r.IntN(wide + 1) {
				prod.Right = append(prod.Right, r.IntN(names+terms)-terms)
			}
			p.Prods = append(p.Prods, prod)
		}
	}
	return p
}

// begun: a grammar of the beginnings of another one's words: for each symbol there is a nonterminal of the beginnings of what it derives, as it is up to some symbol of a right side, and as the beginnings of that one there.
func begun(p plain.Grammar) plain.Grammar {
	names := len(p.Names)
	beginning := func(symbol int) int {
		if symbol < 0 {
			return 2*names - 1 - symbol
		}
		return names + symbol
	}
	q := plain.Grammar{Start: beginning(p.Start), Terms: p.Terms, Prods: slices.Clone(p.Prods)}
	generating := facts.Generating(p)
	barren := func(symbol int) bool { return symbol >= 0 && !generating[symbol] }
	for left, ok := range generating {
		if ok {
			q.Prods = append(q.Prods, to(beginning(left)))
		}
		for _, prod := range p.Prods {
			if prod.Left == left && !slices.ContainsFunc(prod.Right, barren) {
				for k, symbol := range prod.Right {
					q.Prods = append(q.Prods, to(beginning(left), append(slices.Clone(prod.Right[:k]), beginning(symbol))...))
				}
			}
		}
	}
	for t := range p.Terms {
		q.Prods = append(q.Prods, to(beginning(-1-t)), to(beginning(-1-t), -1-t))
	}
	for k := range 2*names + len(p.Terms) {
		q.Names = append(q.Names, "n"+strconv.Itoa(k))
	}
	return q
}

// good: how many terminals of a word are a beginning, and what may come behind each such; by asking that of each word.
func good(p plain.Grammar, word []int) (int, [][]int) {
	q := begun(p)
	n := 0
	for n <= len(word) && lang.Derives(q, word[:n]) {
		n++
	}
	next := make([][]int, n)
	for k := range next {
		for t := range p.Terms {
			if lang.Derives(q, append(slices.Clone(word[:k]), t)) {
				next[k] = append(next[k], t)
			}
		}
	}
	return n - 1, next
}

// check a chart against the slow answers.
func check(t *testing.T, p plain.Grammar, word []int) *earley.Chart {
	t.Helper()
	c := earley.Make(p, word)
	n, next := good(p, word)
	if c.Good() != n || c.Yes() != lang.Derives(p, word) {
		t.Fatal(plain.Lines(p), p.Start, word, c.Good(), c.Yes(), n)
	}
	for k := -1; k <= len(word)+1; k++ {
		var want []int
		if k >= 0 && k <= n {
			want = next[k]
		}
		if got := c.Next(k); !slices.Equal(got, want) {
			t.Fatal(plain.Lines(p), p.Start, word, k, got, want)
		}
		if c.Ends(k) != (k >= 0 && k <= len(word) && lang.Derives(p, word[:max(0, min(k, len(word)))])) {
			t.Fatal(plain.Lines(p), p.Start, word, k, c.Ends(k))
		}
	}
	return c
}

// all words of so many terminals, up to a length.
func all(terms, most int) [][]int {
	words := [][]int{nil}
	for k := 0; k < len(words) && terms > 0; k++ {
		if len(words[k]) < most {
			for t := range terms {
				words = append(words, append(slices.Clone(words[k]), t))
			}
		}
	}
	return words
}

// TestManyGrammars: of small grammars all short words.
func TestManyGrammars(t *testing.T) {
	r := rand.New(rand.NewPCG(71, 72))
	counts := map[int]int{}
	for range 1500 {
		p := random(r, 1+r.IntN(5), r.IntN(4), 4, 4)
		for _, word := range all(len(p.Terms), 3) {
			counts[check(t, p, word).Good()]++
		}
	}
	t.Log(counts)
	if len(counts) != 5 || counts[-1] < 1000 || counts[0] < 1000 || counts[1] < 1000 || counts[2] < 1000 || counts[3] < 1000 {
		t.Error("one-sided grammars:", counts)
	}
}

// TestManyLongWords: words that mostly go on as they may.
func TestManyLongWords(t *testing.T) {
	r := rand.New(rand.NewPCG(73, 74))
	long, yes, ends := 0, 0, 0
	for range 3000 {
		p := random(r, 1+r.IntN(6), 1+r.IntN(3), 4, 5)
		var word []int
		for range r.IntN(20) {
			next := earley.Make(p, word).Next(len(word))
			if len(next) == 0 {
				break
			}
			word = append(word, next[r.IntN(len(next))])
		}
		if len(word) > 0 && r.IntN(2) == 0 {
			word[r.IntN(len(word))] = r.IntN(len(p.Terms))
		}
		c := check(t, p, word)
		if c.Good() > 8 {
			long++
		}
		if c.Yes() && len(word) > 2 {
			yes++
		}
		if c.Ends(len(word)/2) && len(word) > 2 {
			ends++
		}
	}
	t.Log(long, yes, ends)
	if long < 300 || yes < 300 || ends < 300 {
		t.Error("one-sided words:", long, yes, ends)
	}
}

// TestManyEmpty: grammars most of whose nonterminals may be empty.
func TestManyEmpty(t *testing.T) {
	r := rand.New(rand.NewPCG(75, 76))
	yes := 0
	for range 800 {
		p := random(r, 2+r.IntN(4), 1+r.IntN(2), 3, 4)
		for left := range p.Names {
			if r.IntN(4) > 0 {
				p.Prods = append(p.Prods, to(left))
			}
		}
		slices.SortStableFunc(p.Prods, func(a, b plain.Prod) int { return a.Left - b.Left })
		for _, word := range all(len(p.Terms), 4) {
			if check(t, p, word).Yes() && len(word) > 2 {
				yes++
			}
		}
	}
	t.Log(yes)
	if yes < 1000 {
		t.Error("one-sided grammars:", yes)
	}
}
