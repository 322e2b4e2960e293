package tree_test

import (
	"math/rand/v2"
	"slices"
	"strings"
	"testing"

	"primer/api"
	"primer/lang"
	"primer/lex"
	"primer/octets"
	"primer/plain"
	"primer/tree"
)

func random(r *rand.Rand) plain.Grammar {
	names, terms := 1+r.IntN(4), 1+r.IntN(3)
	p := plain.Grammar{Start: r.IntN(names)}
	for k := range terms {
		p.Terms = append(p.Terms, string(rune('w'+k)))
	}
	for left := range names {
		p.Names = append(p.Names, string(rune('A'+left)))
		for range 1 + r.IntN(4) {
			prod := to(left)
			for range r.IntN(4) {
				prod.Right = append(prod.Right, r.IntN(names+terms)-terms)
			}
			p.Prods = append(p.Prods, prod)
		}
	}
	return p
}

// grown: a tree of a symbol; false, when it doesn't end in so many steps.
func grown(r *rand.Rand, p plain.Grammar, symbol int, steps *int) (tree.Tree, bool) {
	if symbol < 0 {
		return node(symbol), true
	}
	*steps--
	var prods []int
	for k, prod := range p.Prods {
		if prod.Left == symbol {
			prods = append(prods, k)
		}
	}
	if *steps < 0 || len(prods) == 0 {
		return tree.Tree{}, false
	}
	t := node(prods[r.IntN(len(prods))])
	for _, s := range p.Prods[t.Prod].Right {
		kid, ok := grown(r, p, s, steps)
		if !ok {
			return tree.Tree{}, false
		}
		t.Kids = append(t.Kids, kid)
	}
	return t, true
}

func someTree(r *rand.Rand, p plain.Grammar) tree.Tree {
	for {
		steps := 1 + r.IntN(40)
		if t, ok := grown(r, p, r.IntN(len(p.Names)+len(p.Terms))-len(p.Terms), &steps); ok {
			return t
		}
	}
}

// all nodes of a tree, each ahead of its Kids: found with a heap of what is still to do.
func all(t *tree.Tree) []*tree.Tree {
	var l []*tree.Tree
	todo := []*tree.Tree{t}
	for len(todo) > 0 {
		last := todo[len(todo)-1]
		todo = todo[:len(todo)-1]
		l = append(l, last)
		for k := len(last.Kids) - 1; k >= 0; k-- {
			todo = append(todo, &last.Kids[k])
		}
	}
	return l
}

// slowCheck: of each node by itself.
func slowCheck(p plain.Grammar, t tree.Tree) bool {
	root := func(t *tree.Tree) int {
		if t.Prod < 0 {
			return t.Prod
		}
		return p.Prods[t.Prod].Left
	}
	nodes := all(&t)
	for _, n := range nodes {
		if n.Prod >= len(p.Prods) || n.Prod < -len(p.Terms) {
			return false
		}
	}
	for _, n := range nodes {
		var right []int
		if n.Prod >= 0 {
			right = p.Prods[n.Prod].Right
		}
		if len(right) != len(n.Kids) {
			return false
		}
		for k := range right {
			if root(&n.Kids[k]) != right[k] {
				return false
			}
		}
	}
	return true
}

// copied: a tree with nodes of its own.
func copied(t tree.Tree) tree.Tree {
	c := node(t.Prod)
	for _, kid := range t.Kids {
		c.Kids = append(c.Kids, copied(kid))
	}
	return c
}

// spoilt: a tree with something changed in one of its nodes.
func spoilt(r *rand.Rand, p plain.Grammar, t tree.Tree) tree.Tree {
	t = copied(t)
	nodes := all(&t)
	n := nodes[r.IntN(len(nodes))]
	switch r.IntN(5) {
	case 0:
		n.Kids = append(n.Kids, node(r.IntN(3)-1))
	case 1:
		if len(n.Kids) > 0 {
			n.Kids = n.Kids[:len(n.Kids)-1]
		}
	case 2:
		slices.Reverse(n.Kids)
	default:
		n.Prod = r.IntN(len(p.Prods)+len(p.Terms)+2) - len(p.Terms) - 1
	}
	return t
}

func TestManyTrees(t *testing.T) {
	r := rand.New(rand.NewPCG(51, 52))
	good, bad := 0, 0
	for range 20000 {
		p := random(r)
		x := someTree(r, p)
		y := spoilt(r, p, x)
		if !tree.Check(p, x) || !slowCheck(p, x) {
			t.Fatal(plain.Lines(p), x)
		}
		if tree.Check(p, y) != slowCheck(p, y) {
			t.Fatal(plain.Lines(p), y, slowCheck(p, y))
		}
		// a tree is the same just where Prods and numbers of Kids are
		if tree.Same(x, y) != (shape(x) == shape(y)) || !tree.Same(y, copied(y)) {
			t.Fatal(x, y)
		}
		if shape(x) != shape(y) && slowCheck(p, y) {
			good++
		} else if !slowCheck(p, y) {
			bad++
		}
		text := tree.Text(p, y)
		if (text != "") != slowCheck(p, y) || tree.Text(p, x) != slowText(p, x) || text != "" && text != slowText(p, y) {
			t.Fatal(plain.Lines(p), y, text)
		}
	}
	if good < 500 || bad < 5000 {
		t.Error("one-sided trees:", good, bad)
	}
}

// shape: each node's Prod and number of Kids, as text.
func shape(t tree.Tree) string {
	var o octets.Out
	for _, n := range all(&t) {
		o.Int(n.Prod)
		o.Int(len(n.Kids))
	}
	s, _ := o.Bytes()
	return s
}

func slowText(p plain.Grammar, t tree.Tree) string {
	if t.Prod < 0 {
		return lex.Quote(p.Terms[-1-t.Prod])
	}
	l := []string{p.Names[p.Prods[t.Prod].Left]}
	for _, kid := range t.Kids {
		l = append(l, slowText(p, kid))
	}
	return "(" + strings.Join(l, " ") + ")"
}

// TestManyWalks: what is told of a tree of any numbers is that of its nodes one by one.
func TestManyWalks(t *testing.T) {
	r := rand.New(rand.NewPCG(53, 54))
	for range 5000 {
		p := random(r)
		x := spoilt(r, p, someTree(r, p))
		var yield, left []int
		deepest, put := 0, ""
		deep := map[*tree.Tree]int{&x: 1}
		below := map[*tree.Tree]bool{}
		nodes := all(&x)
		for _, n := range nodes {
			deepest = max(deepest, deep[n])
			put += octets.Put(n.Prod)
			if n.Prod >= 0 {
				left = append(left, n.Prod)
			} else if !below[n] {
				yield = append(yield, -1-n.Prod)
			}
			for k := range n.Kids {
				deep[&n.Kids[k]] = deep[n] + 1
				below[&n.Kids[k]] = below[n] || n.Prod < 0
			}
		}
		count, d := tree.Size(x)
		if count != len(nodes) || d != deepest || !slices.Equal(tree.Yield(x), yield) || !slices.Equal(tree.Leftmost(x), left) || tree.Put(x) != put {
			t.Fatal(x, count, d, tree.Yield(x), tree.Leftmost(x))
		}
	}
}

// TestManyYields: of a tree of a grammar the root derives the yield, and the productions lead there.
func TestManyYields(t *testing.T) {
	r := rand.New(rand.NewPCG(55, 56))
	for range 5000 {
		p := random(r)
		x := someTree(r, p)
		from := x.Prod
		if from >= 0 {
			from = p.Prods[x.Prod].Left
			p.Start = from
			if word := tree.Yield(x); len(word) <= api.MaxWord && !lang.Derives(p, word) {
				t.Fatal(plain.Lines(p), x, word)
			}
		}
		symbols, err := tree.Replay(p, from, tree.Leftmost(x))
		for k := range symbols {
			symbols[k] = -1 - symbols[k]
		}
		if err != api.OK || !slices.Equal(symbols, tree.Yield(x)) {
			t.Fatal(plain.Lines(p), x, symbols, err)
		}
	}
}

func slowReplay(p plain.Grammar, from int, l []int) ([]int, api.Errno) {
	symbols := []int{from}
	for _, n := range l {
		if n < 0 || n >= len(p.Prods) {
			return nil, api.ErrNone
		}
		at := slices.IndexFunc(symbols, func(symbol int) bool { return symbol >= 0 })
		if at < 0 {
			return nil, api.ErrState
		}
		if symbols[at] != p.Prods[n].Left {
			return nil, api.ErrKind
		}
		symbols = slices.Replace(symbols, at, at+1, p.Prods[n].Right...)
	}
	return symbols, api.OK
}

func TestManyReplays(t *testing.T) {
	r := rand.New(rand.NewPCG(57, 58))
	counts := map[api.Errno]int{}
	for range 20000 {
		p := random(r)
		from := r.IntN(len(p.Names)+len(p.Terms)) - len(p.Terms)
		var l []int
		for range r.IntN(12) {
			symbols, err := slowReplay(p, from, l)
			at := slices.IndexFunc(symbols, func(symbol int) bool { return symbol >= 0 })
			if err != api.OK || at < 0 {
				break
			}
			n := r.IntN(len(p.Prods)+2) - 1
			for range 50 {
				if n >= 0 && n < len(p.Prods) && p.Prods[n].Left == symbols[at] {
					break
				}
				n = r.IntN(len(p.Prods))
			}
			l = append(l, n)
		}
		if r.IntN(3) == 0 {
			l = append(l, r.IntN(len(p.Prods)+2)-1)
		}
		got, err := tree.Replay(p, from, l)
		want, wrong := slowReplay(p, from, l)
		if err != wrong || !slices.Equal(got, want) {
			t.Fatal(plain.Lines(p), from, l, got, err, want, wrong)
		}
		counts[err]++
	}
	t.Log(counts)
	if len(counts) != 4 || min(counts[api.OK], counts[api.ErrNone], counts[api.ErrState], counts[api.ErrKind]) < 500 {
		t.Error("one-sided replays:", counts)
	}
}

// slowGet: what is wrong with a tree's bytes, found with a list of the symbols that are still to come.
func slowGet(p plain.Grammar, s string) api.Errno {
	const any = 1 << 30
	todo := []int{any}
	for len(todo) > 0 {
		prod, size, err := octets.Get(s)
		switch {
		case err != api.OK:
			return err
		case prod < -len(p.Terms) || prod >= len(p.Prods):
			return api.ErrNone
		}
		root, right := prod, []int(nil)
		if prod >= 0 {
			root, right = p.Prods[prod].Left, p.Prods[prod].Right
		}
		if todo[0] != any && todo[0] != root {
			return api.ErrKind
		}
		todo = slices.Concat(right, todo[1:])
		s = s[size:]
	}
	if s != "" {
		return api.ErrTail
	}
	return api.OK
}

// TestManyBytes: of bytes of a tree, as they are or spoilt, comes the tree, or what is wrong.
func TestManyBytes(t *testing.T) {
	r := rand.New(rand.NewPCG(59, 60))
	counts := map[api.Errno]int{}
	for range 20000 {
		p := random(r)
		x := someTree(r, p)
		s := tree.Put(x)
		if got, err := tree.Get(p, s); err != api.OK || !tree.Same(got, x) {
			t.Fatal(plain.Lines(p), x, got, err)
		}
		b := []byte(s)
		switch r.IntN(4) {
		case 0:
			b = b[:r.IntN(len(b))]
		case 1:
			b[r.IntN(len(b))] = byte(r.IntN(256))
		case 2:
			b = slices.Insert(b, r.IntN(len(b)+1), byte(r.IntN(4)))
		case 3:
			b = []byte(tree.Put(spoilt(r, p, x)))
		}
		got, err := tree.Get(p, string(b))
		if err != slowGet(p, string(b)) {
			t.Fatalf("%q: %x: %d, not %d", plain.Lines(p), b, err, slowGet(p, string(b)))
		}
		if err == api.OK && (!tree.Check(p, got) || tree.Put(got) != string(b)) || err != api.OK && !tree.Same(got, tree.Tree{}) {
			t.Fatalf("%q: %x: %v", plain.Lines(p), b, got)
		}
		counts[err]++
	}
	t.Log(counts)
	for _, err := range []api.Errno{api.OK, api.ErrNone, api.ErrKind, api.ErrShort, api.ErrForm, api.ErrTail} {
		if counts[err] < 200 {
			t.Error("one-sided bytes:", err, counts)
		}
	}
}
