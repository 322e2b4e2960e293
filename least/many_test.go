package least_test

import (
	"math/big"
	"math/rand/v2"
	"slices"
	"testing"

	"primer/api"
	"primer/lang"
	"primer/least"
	"primer/plain"
	"primer/tree"
)

func random(r *rand.Rand, names, terms, rows, wide int) plain.Grammar {
	p := named(names, terms)
	p.Start = r.IntN(names)
	for left := range names {
		for range r.IntN(rows + 1) {
			prod := to(left)
			for range r.IntN(wide + 1) {
				prod.Right = append(prod.Right, r.IntN(names+terms)-terms)
			}
			p.Prods = append(p.Prods, prod)
		}
	}
	return p
}

// less: the document's words of two trees of one root and one part.
func less(a, b tree.Tree) bool {
	ours, _ := tree.Size(a)
	theirs, _ := tree.Size(b)
	switch {
	case ours != theirs:
		return ours < theirs
	case a.Prod != b.Prod:
		return a.Prod < b.Prod
	}
	end, other := 0, 0
	for k := range a.Kids {
		end += len(tree.Yield(a.Kids[k]))
		other += len(tree.Yield(b.Kids[k]))
		if end != other {
			return end < other
		}
	}
	for k := range a.Kids {
		if !tree.Same(a.Kids[k], b.Kids[k]) {
			return less(a.Kids[k], b.Kids[k])
		}
	}
	return false
}

// A forest has all trees of a grammar, by their symbols and their numbers of nodes.
type forest struct {
	p     plain.Grammar
	trees map[[2]int][]tree.Tree
}

func (f *forest) of(symbol, nodes int) []tree.Tree {
	if symbol < 0 {
		if nodes == 1 {
			return []tree.Tree{node(symbol)}
		}
		return nil
	}
	key := [2]int{symbol, nodes}
	l, ok := f.trees[key]
	if !ok {
		for k, prod := range f.p.Prods {
			if prod.Left == symbol {
				for _, kids := range f.rows(prod.Right, nodes-1) {
					l = append(l, node(k, kids...))
				}
			}
		}
		f.trees[key] = l
	}
	return l
}

// rows of trees of some symbols, with so many nodes in all.
func (f *forest) rows(symbols []int, nodes int) [][]tree.Tree {
	if len(symbols) == 0 {
		if nodes == 0 {
			return [][]tree.Tree{nil}
		}
		return nil
	}
	var l [][]tree.Tree
	for first := 1; first <= nodes-len(symbols)+1; first++ {
		for _, head := range f.of(symbols[0], first) {
			for _, rest := range f.rows(symbols[1:], nodes-first) {
				l = append(l, append([]tree.Tree{head}, rest...))
			}
		}
	}
	return l
}

// TestManyTrees: of all trees with a word and few nodes the least one is told.
func TestManyTrees(t *testing.T) {
	r := rand.New(rand.NewPCG(61, 62))
	const most = 7
	several, none := 0, 0
	for range 4000 {
		p := random(r, 1+r.IntN(3), 1+r.IntN(2), 3, 3)
		f := forest{p, map[[2]int][]tree.Tree{}}
		found := map[string]tree.Tree{}
		for nodes := 1; nodes <= most; nodes++ {
			for _, x := range f.of(p.Start, nodes) {
				word := tree.Yield(x)
				key := string(wordBytes(word))
				before, ok := found[key]
				if ok && tree.Same(before, x) {
					t.Fatal("twice", x)
				}
				if ok {
					several++
				}
				if !ok || less(x, before) {
					found[key] = x
				}
			}
		}
		for _, word := range words(len(p.Terms), 4) {
			want, ok := found[string(wordBytes(word))]
			got, err := least.Tree(p, word)
			nodes := least.Nodes(p, word)
			if size, _ := tree.Size(want); ok && (err != api.OK || !tree.Same(got, want) || nodes != size) {
				t.Fatal(plain.Lines(p), p.Start, word, got, err, want, nodes)
			}
			if !ok && 0 <= nodes && nodes <= most {
				t.Fatal(plain.Lines(p), p.Start, word, got, err, nodes)
			}
			if !ok && nodes < 0 {
				none++
			}
		}
	}
	t.Log(several, none)
	if several < 5000 || none < 5000 {
		t.Error("one-sided grammars:", several, none)
	}
}

func wordBytes(word []int) []byte {
	var b []byte
	for _, t := range word {
		b = append(b, byte(t))
	}
	return b
}

// words of so many terminals, up to a length.
func words(terms, most int) [][]int {
	l := [][]int{nil}
	for k := 0; k < len(l); k++ {
		if len(l[k]) < most {
			for t := range terms {
				l = append(l, append(slices.Clone(l[k]), t))
			}
		}
	}
	return l
}

// A slow chart has the least trees that were met, of nonterminals and parts; they are put together again and again, till none is less than what was met.
type slow struct {
	p    plain.Grammar
	word []int
	best map[[3]int]tree.Tree
}

func slowTree(p plain.Grammar, word []int) (tree.Tree, bool) {
	s := slow{p, word, map[[3]int]tree.Tree{}}
	for more := true; more; {
		more = false
		for k, prod := range p.Prods {
			for from := range len(word) + 1 {
				s.rows(prod.Right, from, nil, func(kids []tree.Tree, end int) {
					x, key := node(k, slices.Clone(kids)...), [3]int{prod.Left, from, end}
					before, ok := s.best[key]
					if !ok || less(x, before) {
						s.best[key] = x
						more = true
					}
				})
			}
		}
	}
	x, ok := s.best[[3]int{p.Start, 0, len(word)}]
	return x, ok
}

// rows of trees that were met of some symbols, from a place on.
func (s *slow) rows(symbols []int, from int, kids []tree.Tree, do func(kids []tree.Tree, end int)) {
	if len(symbols) == 0 {
		do(kids, from)
		return
	}
	if symbol := symbols[0]; symbol < 0 {
		if from < len(s.word) && s.word[from] == -1-symbol {
			s.rows(symbols[1:], from+1, append(kids, node(symbol)), do)
		}
		return
	}
	for end := from; end <= len(s.word); end++ {
		if x, ok := s.best[[3]int{symbols[0], from, end}]; ok {
			s.rows(symbols[1:], end, append(kids, x), do)
		}
	}
}

// TestManyWords: of words that are longer the tree is that of the slow chart, and there is one just where the start derives the word.
func TestManyWords(t *testing.T) {
	r := rand.New(rand.NewPCG(63, 64))
	yes, no := 0, 0
	for range 10000 {
		p := random(r, 1+r.IntN(4), 1+r.IntN(2), 4, 4)
		word := make([]int, r.IntN(7))
		for k := range word {
			word[k] = r.IntN(len(p.Terms))
		}
		want, ok := slowTree(p, word)
		got, err := least.Tree(p, word)
		nodes := least.Nodes(p, word)
		if ok != lang.Derives(p, word) || ok != (err == api.OK) || !tree.Same(got, want) {
			t.Fatal(plain.Lines(p), p.Start, word, got, err, want, ok)
		}
		if !ok {
			if err != api.ErrNone || nodes != -1 {
				t.Fatal(plain.Lines(p), p.Start, word, err, nodes)
			}
			no++
			continue
		}
		if size, _ := tree.Size(got); nodes != size || !tree.Check(p, got) || !slices.Equal(tree.Yield(got), word) || p.Prods[got.Prod].Left != p.Start {
			t.Fatal(plain.Lines(p), p.Start, word, got, nodes)
		}
		if len(word) > 2 {
			yes++
		}
	}
	t.Log(yes, no)
	if yes < 400 || no < 1000 {
		t.Error("one-sided words:", yes, no)
	}
}

// slowNodes: numbers of any size, that shrink till they don't.
func slowNodes(p plain.Grammar, word []int) *big.Int {
	size := len(word) + 1
	best := map[[3]int]*big.Int{}
	for more := true; more; {
		more = false
		for _, prod := range p.Prods {
			for from := range size {
				sums := map[int]*big.Int{from: big.NewInt(1)}
				for _, symbol := range prod.Right {
					next := map[int]*big.Int{}
					for at, sum := range sums {
						for end := at; end < size; end++ {
							nodes := best[[3]int{symbol, at, end}]
							if symbol < 0 && end == at+1 && word[at] == -1-symbol {
								nodes = big.NewInt(1)
							}
							if nodes == nil {
								continue
							}
							if all := new(big.Int).Add(sum, nodes); next[end] == nil || all.Cmp(next[end]) < 0 {
								next[end] = all
							}
						}
					}
					sums = next
				}
				for end, sum := range sums {
					key := [3]int{prod.Left, from, end}
					if best[key] == nil || sum.Cmp(best[key]) < 0 {
						best[key] = sum
						more = true
					}
				}
			}
		}
	}
	return best[[3]int{p.Start, 0, len(word)}]
}

// heavy: a grammar whose productions go on to nonterminals a little behind, so that even the least trees are large.
func heavy(r *rand.Rand) plain.Grammar {
	names := 5 + r.IntN(110)
	p := named(names, 2)
	for left := range names - 2 {
		for range 1 + r.IntN(2) {
			prod := to(left)
			for range 1 + r.IntN(3) {
				prod.Right = append(prod.Right, left+1+r.IntN(2))
			}
			if r.IntN(30) == 0 {
				prod.Right = append(prod.Right, r.IntN(names))
			}
			if r.IntN(60) == 0 {
				prod.Right[r.IntN(len(prod.Right))] = -1 - r.IntN(2)
			}
			p.Prods = append(p.Prods, prod)
		}
	}
	for left := names - 2; left < names; left++ {
		p.Prods = append(p.Prods, to(left, -1), to(left, -2), to(left))
	}
	return p
}

// TestManyNodes: numbers of nodes up to the greatest that is told, and beyond.
func TestManyNodes(t *testing.T) {
	r := rand.New(rand.NewPCG(65, 66))
	counts := map[api.Errno]int{}
	cut := 0
	for range 1200 {
		p := heavy(r)
		word := make([]int, r.IntN(4))
		for k := range word {
			word[k] = r.IntN(2)
		}
		want := slowNodes(p, word)
		nodes := least.Nodes(p, word)
		got, err := least.Tree(p, word)
		size, _ := tree.Size(got)
		counts[err]++
		switch {
		case want == nil:
			if nodes != -1 || err != api.ErrNone {
				t.Fatal(plain.Lines(p), word, nodes, err)
			}
		case want.Cmp(big.NewInt(api.MaxCount)) > 0:
			cut++
			if nodes != api.MaxCount || err != api.ErrLong {
				t.Fatal(plain.Lines(p), word, nodes, err, want)
			}
		case want.Int64() != int64(nodes):
			t.Fatal(plain.Lines(p), word, nodes, err, want)
		case nodes > 65536 && err != api.ErrLong || nodes <= 65536 && (err != api.OK || size != nodes || !tree.Check(p, got) || !slices.Equal(tree.Yield(got), word)):
			t.Fatal(plain.Lines(p), word, nodes, err, size)
		}
	}
	t.Log(counts, cut)
	if min(counts[api.OK], counts[api.ErrNone], counts[api.ErrLong]) < 100 || cut < 50 || counts[api.ErrLong]-cut < 50 {
		t.Error("one-sided grammars:", counts, cut)
	}
}
