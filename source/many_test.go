package source_test

import (
	"math/rand/v2"
	"slices"
	"strings"
	"testing"

	"primer/api"
	"primer/format"
	"primer/lang"
	"primer/least"
	"primer/lex"
	"primer/plain"
	"primer/source"
	"primer/symbols"
	"primer/syntax"
	"primer/tree"
)

// body: a proper one of a few names and terminals.
func body(r *rand.Rand, deep int) syntax.Node {
	kind := 1 + r.IntN(7)
	if deep == 0 {
		kind = 1 + r.IntN(2)
	}
	n := syntax.Node{Kind: kind}
	count := 1
	switch kind {
	case syntax.Ref:
		n.Text = []string{"S", "a", "b"}[r.IntN(3)]
		return n
	case syntax.Lit:
		n.Text = []string{"x", "y", "a"}[r.IntN(3)]
		return n
	case syntax.Seq:
		count = []int{0, 2, 2, 3}[r.IntN(4)]
	case syntax.Alt:
		count = 2 + r.IntN(2)
	}
	for range count {
		n.Kids = append(n.Kids, body(r, deep-1))
	}
	return n
}

func grammar(r *rand.Rand) syntax.Grammar {
	g := syntax.Grammar{Start: "S"}
	for _, name := range []string{"S", "a", "b"} {
		g.Rules = append(g.Rules, syntax.Rule{Name: name, Body: body(r, r.IntN(5))})
	}
	return g
}

// ends: where what a node is made of may end, that begins at a place.
func ends(n syntax.Node, kids []source.Node, from int) []int {
	switch n.Kind {
	case syntax.Ref, syntax.Lit:
		if from < len(kids) && kids[from].Name == n.Text && kids[from].Lit == (n.Kind == syntax.Lit) {
			return []int{from + 1}
		}
		return nil
	case syntax.Seq:
		at := []int{from}
		for _, kid := range n.Kids {
			at = allEnds(kid, kids, at)
		}
		return at
	case syntax.Alt:
		var at []int
		for _, kid := range n.Kids {
			at = append(at, ends(kid, kids, from)...)
		}
		return once(at)
	case syntax.Opt:
		return once(append(ends(n.Kids[0], kids, from), from))
	}
	at := []int{from}
	if n.Kind == syntax.Plus {
		at = ends(n.Kids[0], kids, from)
	}
	for {
		more := once(append(allEnds(n.Kids[0], kids, at), at...))
		if len(more) == len(once(at)) {
			return more
		}
		at = more
	}
}

func allEnds(n syntax.Node, kids []source.Node, from []int) []int {
	var at []int
	for _, k := range from {
		at = append(at, ends(n, kids, k)...)
	}
	return once(at)
}

func once(at []int) []int {
	slices.Sort(at)
	return slices.Compact(at)
}

func slowMatches(n syntax.Node, kids []source.Node) bool {
	return slices.Contains(ends(n, kids, 0), len(kids))
}

func slowCheck(g syntax.Grammar, n source.Node) bool {
	if n.Lit {
		return len(n.Kids) == 0
	}
	found := false
	for _, rule := range g.Rules {
		found = found || rule.Name == n.Name && slowMatches(rule.Body, n.Kids)
	}
	for _, kid := range n.Kids {
		found = found && slowCheck(g, kid)
	}
	return found
}

// TestManyMatches: of any kids what a body is made of is told as the document's words say it.
func TestManyMatches(t *testing.T) {
	r := rand.New(rand.NewPCG(71, 72))
	yes, no := 0, 0
	for range 20000 {
		n := body(r, 1+r.IntN(4))
		for range 10 {
			kids := make([]source.Node, r.IntN(5))
			for k := range kids {
				kids[k] = []source.Node{lit("x"), lit("y"), lit("a"), rule("a"), rule("b"), rule("S")}[r.IntN(6)]
			}
			want := slowMatches(n, kids)
			if source.Matches(n, kids) != want {
				t.Fatal(format.Body(n), kids, want)
			}
			if want && len(kids) > 1 {
				yes++
			} else if !want {
				no++
			}
		}
	}
	t.Log(yes, no)
	if yes < 1000 || no < 10000 {
		t.Error("one-sided bodies:", yes, no)
	}
}

// grown: a tree of a symbol; false, when it doesn't end in so many steps.
func grown(r *rand.Rand, p plain.Grammar, symbol int, steps *int) (tree.Tree, bool) {
	if symbol < 0 {
		return node(symbol), true
	}
	*steps--
	var prods []int
	for k, prod := range p.Prods {
		if prod.Left == symbol {
			prods = append(prods, k)
		}
	}
	if *steps < 0 {
		return tree.Tree{}, false
	}
	t := node(prods[r.IntN(len(prods))])
	for _, s := range p.Prods[t.Prod].Right {
		kid, ok := grown(r, p, s, steps)
		if !ok {
			return tree.Tree{}, false
		}
		t.Kids = append(t.Kids, kid)
	}
	return t, true
}

// all nodes of a tree, each ahead of its Kids.
func all(n *source.Node) []*source.Node {
	l := []*source.Node{n}
	for k := range n.Kids {
		l = append(l, all(&n.Kids[k])...)
	}
	return l
}

func copied(n source.Node) source.Node {
	c := source.Node{Name: n.Name, Lit: n.Lit}
	for _, kid := range n.Kids {
		c.Kids = append(c.Kids, copied(kid))
	}
	return c
}

// spoilt: a tree with something changed in one of its nodes.
func spoilt(r *rand.Rand, n source.Node) source.Node {
	n = copied(n)
	nodes := all(&n)
	some := nodes[r.IntN(len(nodes))]
	switch r.IntN(5) {
	case 0:
		some.Name = []string{"S", "a", "b", "c", "x", "y", ""}[r.IntN(7)]
	case 1:
		some.Lit = !some.Lit
	case 2:
		some.Kids = append(some.Kids, copied(*nodes[r.IntN(len(nodes))]))
	case 3:
		if len(some.Kids) > 0 {
			some.Kids = some.Kids[1:]
		}
	case 4:
		slices.Reverse(some.Kids)
	}
	return n
}

func slowText(n source.Node) string {
	if n.Lit {
		return lex.Quote(n.Name)
	}
	l := []string{n.Name}
	for _, kid := range n.Kids {
		l = append(l, slowText(kid))
	}
	return "(" + strings.Join(l, " ") + ")"
}

// slowYield: of a tree whose terminals have no Kids.
func slowYield(n source.Node) []string {
	var l []string
	for _, some := range all(&n) {
		if some.Lit {
			l = append(l, some.Name)
		}
	}
	return l
}

// TestManyTrees: each tree of a source grammar's productions is one of that grammar's, with the same yield; and whether a tree is one is told of each node by itself.
func TestManyTrees(t *testing.T) {
	r := rand.New(rand.NewPCG(73, 74))
	good, bad, large := 0, 0, 0
	for good+bad < 60000 {
		g := grammar(r)
		p, err := plain.Desugar(g)
		if err == api.ErrQuota {
			continue
		}
		if err != api.OK || len(symbols.Check(g)) > 0 {
			t.Fatal(g, err)
		}
		for range 20 {
			steps := 1 + r.IntN(60)
			x, ok := grown(r, p, r.IntN(len(g.Rules)), &steps)
			if !ok {
				continue
			}
			n, err := source.Of(p, x)
			texts := plain.Texts(p, tree.Yield(x))
			if err != api.OK || !source.Check(g, n) || !slowCheck(g, n) || !slices.Equal(source.Yield(n), texts) {
				t.Fatal(plain.Lines(p), tree.Text(p, x), source.Text(n), err)
			}
			if n.Name != p.Names[p.Prods[x.Prod].Left] || source.Text(n) != slowText(n) {
				t.Fatal(plain.Lines(p), tree.Text(p, x), source.Text(n))
			}
			if nodes, _ := tree.Size(x); nodes > 12 {
				large++
			}
			s := spoilt(r, n)
			want := slowCheck(g, s)
			if source.Check(g, s) != want || source.Text(s) != slowText(s) || want && !slices.Equal(source.Yield(s), slowYield(s)) {
				t.Fatal(plain.Lines(p), source.Text(s), want)
			}
			if want && !same(s, n) {
				good++
			} else if !want {
				bad++
			}
		}
	}
	t.Log(good, bad, large)
	if good < 2000 || bad < 10000 || large < 3000 {
		t.Error("one-sided trees:", good, bad, large)
	}
}

// TestManyWords: of each word that a source grammar's start derives, the least tree is one of that grammar's, of that word.
func TestManyWords(t *testing.T) {
	r := rand.New(rand.NewPCG(75, 76))
	yes, no := 0, 0
	for range 2000 {
		g := grammar(r)
		p, err := plain.Desugar(g)
		if err != api.OK {
			continue
		}
		for range 10 {
			word := make([]int, r.IntN(6))
			if len(p.Terms) == 0 {
				word = nil
			}
			for k := range word {
				word[k] = r.IntN(len(p.Terms))
			}
			x, err := least.Tree(p, word)
			if lang.Derives(p, word) != (err == api.OK) {
				t.Fatal(plain.Lines(p), word, err)
			}
			if err != api.OK {
				no++
				continue
			}
			n, err := source.Of(p, x)
			if err != api.OK || n.Name != g.Start || !source.Check(g, n) || !slices.Equal(source.Yield(n), plain.Texts(p, word)) {
				t.Fatal(plain.Lines(p), word, source.Text(n), err)
			}
			if len(word) > 0 {
				yes++
			}
		}
	}
	t.Log(yes, no)
	if yes < 1000 || no < 1000 {
		t.Error("one-sided words:", yes, no)
	}
}
