package least_test

import (
	"math"
	"reflect"
	"slices"
	"strconv"
	"strings"
	"testing"

	"primer/api"
	"primer/least"
	"primer/plain"
	"primer/syntax"
	"primer/tree"
)

func to(left int, right ...int) plain.Prod {
	return plain.Prod{Left: left, Right: right}
}

func node(prod int, kids ...tree.Tree) tree.Tree {
	return tree.Tree{Prod: prod, Kids: kids}
}

// named: a grammar of so many nonterminals and terminals, which begins with the first one.
func named(names, terms int, prods ...plain.Prod) plain.Grammar {
	p := plain.Grammar{Prods: prods}
	for k := range names {
		p.Names = append(p.Names, "n"+strconv.Itoa(k))
	}
	for k := range terms {
		p.Terms = append(p.Terms, string(rune('a'+k)))
	}
	return p
}

// read a grammar's text.
func read(t *testing.T, text string) plain.Grammar {
	t.Helper()
	g, fault := syntax.Parse(text)
	if fault.Code != api.OK {
		t.Fatal(text, fault)
	}
	p, err := plain.Desugar(g)
	if err != api.OK {
		t.Fatal(text, err)
	}
	return p
}

// wordOf terminals of one byte each.
func wordOf(t *testing.T, p plain.Grammar, text string) []int {
	t.Helper()
	word, ok := plain.Word(p, strings.Split(text, "")[:len(text)])
	if !ok {
		t.Fatal(text)
	}
	return word
}

// hold a grammar's answers of a word against a tree's text and its nodes; -: there is none.
func hold(t *testing.T, p plain.Grammar, word []int, text string, nodes int) {
	t.Helper()
	got, err := least.Tree(p, word)
	if n := least.Nodes(p, word); n != nodes {
		t.Error(plain.Lines(p), word, n, nodes)
	}
	if text == "-" {
		if err != api.ErrNone || !tree.Same(got, tree.Tree{}) {
			t.Error(plain.Lines(p), word, got, err)
		}
		return
	}
	if err != api.OK || tree.Text(p, got) != text || !slices.Equal(tree.Yield(got), word) {
		t.Error(plain.Lines(p), word, tree.Text(p, got), err, text)
	}
}

func TestExample(t *testing.T) {
	p := named(1, 1, to(0, 0, 0), to(0, -1), to(0, -1, -1))
	got, err := least.Tree(p, []int{0, 0})
	if err != api.OK || !tree.Same(got, node(2, node(-1), node(-1))) || least.Nodes(p, []int{0, 0}) != 3 {
		t.Error(got, err)
	}
}

func TestTexts(t *testing.T) {
	for _, c := range []struct {
		text, word, want string
		nodes            int
	}{
		{"S: 'x'* a; a: 'y'|;", "xy", "(S (S.1 'x' (S.1)) (a 'y'))", 6},
		{"S: 'x'* a; a: 'y'|;", "", "(S (S.1) (a))", 3},
		{"S: 'x'* a; a: 'y'|;", "yx", "-", -1},
		{"S: 'x'* a; a: 'y'|;", "xyx", "-", -1},
		{"S: 'x';", "", "-", -1},
		{"S: ;", "", "(S)", 1},
		{"S: S;", "", "-", -1},
		{"S: S|'x';", "x", "(S 'x')", 2},
		{"S: S S|'x'|;", "x", "(S 'x')", 2},
		{"S: S S S|'x' a|; a: S;", "", "(S)", 1},
		{"S: a; a: b; b: S|'x';", "x", "(S (a (b 'x')))", 4},
		{"S: a b; a: a|; b: b|;", "", "(S (a) (b))", 3},
		// a tree of another nonterminal of the same part, about which others stand that are empty
		{"S: e a e; a: e b|'y'; b: S|'x'; e: c c; c: ;", "x", "(S (e (c) (c)) (a (e (c) (c)) (b 'x')) (e (c) (c)))", 13},
		{"S: e a e; a: e b|'y'; b: S|'x'; e: c c; c: ;", "xx", "-", -1},
		{"S: e '+' e; e: e '+' e|'n';", "n+n", "(S (e 'n') '+' (e 'n'))", 6},
		{"S: e '+' e; e: e '+' e|'n';", "n+n+n", "(S (e 'n') '+' (e (e 'n') '+' (e 'n')))", 10},
		{"S: ('x'|'x' 'x')*;", "xxx", "(S (S.1 'x' (S.1 'x' 'x' (S.1))))", 7},
	} {
		p := read(t, c.text)
		hold(t, p, wordOf(t, p, c.word), c.want, c.nodes)
	}
}

// TestOrder: what makes one tree less than another of the same root and part, each by itself, and what comes ahead of what.
func TestOrder(t *testing.T) {
	for what, c := range map[string]struct {
		p    plain.Grammar
		word []int
		want tree.Tree
	}{
		"fewer nodes ahead of a lesser production": {
			named(2, 1, to(0, 1, -1), to(0, -1, -1), to(1, -1)), []int{0, 0}, node(1, node(-1), node(-1)),
		},
		"fewer nodes far below": {
			named(3, 1, to(0, 1), to(0, 2), to(1, 1), to(1, -1, 1), to(1, 2), to(2, -1, 2), to(2)), []int{0, 0}, node(1, node(5, node(-1), node(5, node(-1), node(6)))),
		},
		"the lesser production": {
			named(1, 1, to(0, -1, -1), to(0, -1, -1)), []int{0, 0}, node(0, node(-1), node(-1)),
		},
		"the lesser production of as many nodes": {
			named(3, 1, to(0, 1, -1), to(0, -1, 2), to(1, -1), to(2, -1)), []int{0, 0}, node(0, node(2, node(-1)), node(-1)),
		},
		"the lesser production ahead of ends": {
			named(3, 1, to(0, 1, 2), to(0, 2, 1), to(1, -1, -1), to(2, -1)), []int{0, 0, 0}, node(0, node(2, node(-1), node(-1)), node(3, node(-1))),
		},
		"the first end": {
			named(1, 1, to(0, 0, 0), to(0, -1)), []int{0, 0, 0}, node(0, node(1, node(-1)), node(0, node(1, node(-1)), node(1, node(-1)))),
		},
		"the first end is the beginning": {
			named(3, 1, to(0, 1, 2), to(1, -1), to(1), to(2, -1), to(2)), []int{0}, node(0, node(2), node(3, node(-1))),
		},
		"fewer nodes ahead of ends": {
			named(3, 1, to(0, 1, 2), to(1, -1), to(1), to(2, 0), to(2)), []int{0}, node(0, node(1, node(-1)), node(4)),
		},
		"the second end": {
			named(2, 1, to(0, -1, 1, 1), to(1, -1), to(1, -1, -1)), []int{0, 0, 0, 0}, node(0, node(-1), node(1, node(-1)), node(2, node(-1), node(-1))),
		},
		"ends ahead of kids": {
			named(2, 1, to(0, 1, 1), to(1, -1, -1, -1), to(1, -1, -1), to(1, -1)), []int{0, 0, 0, 0}, node(0, node(3, node(-1)), node(1, node(-1), node(-1), node(-1))),
		},
		"the kids": {
			named(3, 1, to(0, 1, 2), to(1, -1), to(1, -1), to(2, -1), to(2, -1)), []int{0, 0}, node(0, node(1, node(-1)), node(3, node(-1))),
		},
	} {
		got, err := least.Tree(c.p, c.word)
		nodes, _ := tree.Size(c.want)
		if err != api.OK || !tree.Same(got, c.want) || least.Nodes(c.p, c.word) != nodes {
			t.Error(what, got, err, least.Nodes(c.p, c.word))
		}
	}
}

// TestLong: of very many trees of a long word the least one is told.
func TestLong(t *testing.T) {
	p := named(2, 1, to(0, 0, 0), to(0, -1), to(0, 1), to(1, 1, 0), to(1))
	want := node(1, node(-1))
	for range api.MaxWord - 1 {
		want = node(0, node(1, node(-1)), want)
	}
	if got, err := least.Tree(p, make([]int, api.MaxWord)); err != api.OK || !tree.Same(got, want) || least.Nodes(p, make([]int, api.MaxWord)) != 3*api.MaxWord-1 {
		t.Error(tree.Text(p, got), err)
	}
}

// unsound grammars.
func unsound() map[string]plain.Grammar {
	l := map[string]plain.Grammar{"nothing": {}}
	for what, spoil := range map[string]func(p *plain.Grammar){
		"no start":       func(p *plain.Grammar) { p.Start = 2 },
		"a small start":  func(p *plain.Grammar) { p.Start = -1 },
		"many rules":     func(p *plain.Grammar) { p.Rules = 3 },
		"names alike":    func(p *plain.Grammar) { p.Names[1] = "n0" },
		"an empty name":  func(p *plain.Grammar) { p.Names[1] = "" },
		"terms alike":    func(p *plain.Grammar) { p.Terms = []string{"a", "a"} },
		"a long term":    func(p *plain.Grammar) { p.Terms = append(p.Terms, strings.Repeat("a", api.MaxLiteral+1)) },
		"no nonterminal": func(p *plain.Grammar) { p.Prods[1].Right = []int{2} },
		"no terminal":    func(p *plain.Grammar) { p.Prods[1].Right = []int{-2} },
		"no left":        func(p *plain.Grammar) { p.Prods[1].Left = 2 },
		"falling":        func(p *plain.Grammar) { p.Prods = append(p.Prods, to(1), to(0)) },
		"a wide side":    func(p *plain.Grammar) { p.Prods[1].Right = make([]int, api.MaxSide+1) },
		"many prods":     func(p *plain.Grammar) { p.Prods = append(p.Prods, make([]plain.Prod, api.MaxProds)...) },
	} {
		p := named(2, 1, to(0, -1), to(0))
		spoil(&p)
		l[what] = p
	}
	return l
}

func TestWrong(t *testing.T) {
	for what, p := range unsound() {
		for _, word := range [][]int{nil, {0}, {7}, make([]int, api.MaxWord+1)} {
			if x, err := least.Tree(p, word); err != api.ErrArg || !tree.Same(x, tree.Tree{}) || least.Nodes(p, word) != -1 {
				t.Error(what, word, x, err)
			}
		}
	}
	p := named(1, 2, to(0, -1, 0), to(0, -2, 0), to(0))
	for _, word := range [][]int{{-1}, {2}, {0, 1, 2}, {0, -1, 1}, {math.MinInt}, {math.MaxInt}, make([]int, api.MaxWord+1)} {
		if x, err := least.Tree(p, word); err != api.ErrArg || !tree.Same(x, tree.Tree{}) || least.Nodes(p, word) != -1 {
			t.Error(word, x, err)
		}
	}
	for _, word := range [][]int{nil, {}, {1}, {0, 1, 1}, make([]int, api.MaxWord)} {
		if x, err := least.Tree(p, word); err != api.OK || !slices.Equal(tree.Yield(x), word) || least.Nodes(p, word) != 2*len(word)+1 {
			t.Error(word, err, least.Nodes(p, word))
		}
	}
	for _, p := range []plain.Grammar{named(1, 0), named(1, 0, to(0, 0)), named(2, 0, to(0, 1))} {
		hold(t, p, nil, "-", -1)
		if _, err := least.Tree(p, []int{0}); err != api.ErrArg || least.Nodes(p, []int{0}) != -1 {
			t.Error(plain.Lines(p), err)
		}
	}
}

// doubled: of n0 a tree of two of n1's, and so on, so many times: 2^(times+1) - 1 nodes without a terminal; behind these nonterminals there is room for others.
func doubled(times, more int, prods ...plain.Prod) plain.Grammar {
	p := named(times+1+more, 2)
	for k := range times {
		p.Prods = append(p.Prods, to(k, k+1, k+1))
	}
	p.Prods = append(append(p.Prods, to(times)), prods...)
	p.Start = len(p.Names) - 1
	return p
}

// TestMany: as many nodes as are told, one more, and very many.
func TestMany(t *testing.T) {
	for _, c := range []struct {
		p     plain.Grammar
		word  []int
		nodes int
		err   api.Errno
	}{
		{doubled(15, 0), nil, 1, api.OK},
		{doubled(15, 1, to(16, 0)), nil, 65536, api.OK},
		{doubled(15, 1, to(16, 0), to(16, 16)), nil, 65536, api.OK},
		{doubled(15, 2, to(16, 0), to(17, 16)), nil, 65537, api.ErrLong},
		{doubled(14, 1, to(15, 0, 0, -1)), []int{0}, 65536, api.OK},
		{doubled(14, 1, to(15, 0, -1, 0, -1)), []int{0, 0}, 65537, api.ErrLong},
		{doubled(14, 1, to(15, 0, -1, 0)), []int{1}, -1, api.ErrNone},
		{doubled(38, 1, to(39, 0)), nil, 1 << 39, api.ErrLong},
		{doubled(39, 1, to(40, 0)), nil, api.MaxCount, api.ErrLong},
		{doubled(39, 1, to(40, 1, 1)), nil, api.MaxCount - 1, api.ErrLong},
		{doubled(39, 2, to(40, 0), to(41, 40)), nil, api.MaxCount, api.ErrLong},
		{doubled(40, 1, to(41, 0)), nil, api.MaxCount, api.ErrLong},
		{doubled(64, 1, to(65, 0)), nil, api.MaxCount, api.ErrLong},
		{doubled(200, 1, to(201, 0)), nil, api.MaxCount, api.ErrLong},
		{doubled(200, 1, to(201, slices.Repeat([]int{0}, api.MaxSide)...)), nil, api.MaxCount, api.ErrLong},
		{doubled(200, 1, to(201, slices.Repeat([]int{0}, api.MaxSide)...), to(201)), nil, 1, api.OK},
		// with very many beside it, and without
		{doubled(200, 1, to(201, 0, -1)), []int{0}, api.MaxCount, api.ErrLong},
		{doubled(200, 1, to(201, 0, -1)), nil, -1, api.ErrNone},
		{doubled(200, 1, to(201, 0, -1), to(201, 201, 1), to(201, -1)), []int{0}, 2, api.OK},
		{doubled(200, 2, to(201, -1), to(202, 0, 201, 0)), []int{0}, api.MaxCount, api.ErrLong},
		{doubled(200, 2, to(201, -1), to(202, 0, 201, 0)), []int{0, 0}, -1, api.ErrNone},
		{doubled(200, 2, to(201, -1), to(202, 0, 202, 0), to(202, 201, 201)), []int{0, 0}, 5, api.OK},
		{doubled(200, 2, to(201, -1, 0), to(202, 201, 202), to(202)), make([]int, api.MaxWord), api.MaxCount, api.ErrLong},
		{doubled(200, 2, to(201, 0, 201), to(202, 0, 201)), nil, -1, api.ErrNone},
		{doubled(200, 2, to(201, 0, 201), to(202, 0, 201)), []int{0}, -1, api.ErrNone},
	} {
		got, err := least.Tree(c.p, c.word)
		if n := least.Nodes(c.p, c.word); n != c.nodes || err != c.err {
			t.Error(plain.Lines(c.p)[len(c.p.Names)-3:], c.word, n, c.nodes, err, c.err)
		}
		if nodes, _ := tree.Size(got); err == api.OK && (nodes != c.nodes || !tree.Check(c.p, got) || !slices.Equal(tree.Yield(got), c.word)) || err != api.OK && !tree.Same(got, tree.Tree{}) {
			t.Error(plain.Lines(c.p), nodes, c.nodes)
		}
	}
}

// TestLargest: grammars as large as may be are answered soon.
func TestLargest(t *testing.T) {
	const most = api.MaxProds
	wide, ring, deep := named(most, 1), named(most, 1), named(most, 1)
	for k := range most {
		wide.Prods = append(wide.Prods, to(k, slices.Repeat([]int{(k + 1) % most}, api.MaxSide)...))
		ring.Prods = append(ring.Prods, to(k, (k+1)%most))
		deep.Prods = append(deep.Prods, to(k, (k+1)%most))
	}
	word := make([]int, api.MaxWord)
	wide.Prods[most-1].Right = []int{-1}
	hold(t, wide, word, "-", -1)
	wide.Start = most - 1
	hold(t, wide, word[:1], "(n255 'a')", 2)
	wide.Start = most - 2
	hold(t, wide, word[:16], "(n254"+strings.Repeat(" (n255 'a')", 16)+")", 33)
	hold(t, wide, word, "-", -1)
	// as deep as may be: each terminal below all of the names
	ring.Prods[most-1].Right = []int{-1, 0}
	hold(t, ring, word, "-", -1)
	deep.Prods[0] = to(0)
	deep.Prods = slices.Insert(deep.Prods, 1, to(0, 1))[:most]
	deep.Prods[most-1] = to(most-2, -1, 0)
	got, err := least.Tree(deep, word)
	nodes, deepest := tree.Size(got)
	if err != api.OK || nodes != 64*most+1 || deepest != 64*(most-1)+1 || least.Nodes(deep, word) != nodes || !tree.Check(deep, got) || len(tree.Yield(got)) != 64 {
		t.Error(nodes, deepest, err)
	}
}

// TestNewMemory: what is handed in stays, and an answer shares nothing with it, with another one or with itself.
func TestNewMemory(t *testing.T) {
	made := func() (plain.Grammar, []int) {
		p := named(3, 2, to(0, 1, 2, 1), to(1, -1), to(1), to(2, -2, 1, 77), to(2, 1, 1))
		p.Prods[3].Right = p.Prods[3].Right[:2]
		return p, []int{0, 1, 0, 99, 98}[:3]
	}
	p, word := made()
	first, err := least.Tree(p, word)
	if err != api.OK || least.Nodes(p, word) != 8 || tree.Text(p, first) != "(n0 (n1 'a') (n2 'b' (n1)) (n1 'a'))" {
		t.Fatal(tree.Text(p, first), err)
	}
	clean, cleanWord := made()
	if !reflect.DeepEqual(p, clean) || p.Prods[3].Right[:3][2] != 77 || !slices.Equal(word[:5], append(cleanWord, 99, 98)) {
		t.Error("changed", p, word[:5])
	}
	second, _ := least.Tree(p, word)
	rooms(first)
	if tree.Text(p, first) != tree.Text(p, second) {
		t.Error("shares with itself", first)
	}
	spoil(&first)
	if tree.Text(p, second) != "(n0 (n1 'a') (n2 'b' (n1)) (n1 'a'))" || !reflect.DeepEqual(p, clean) {
		t.Error("shares", second)
	}
}

// rooms fills the room behind the Kids of each node.
func rooms(x tree.Tree) {
	for _, kid := range x.Kids {
		rooms(kid)
	}
	for k := range x.Kids[len(x.Kids):cap(x.Kids)] {
		x.Kids[len(x.Kids):cap(x.Kids)][k] = node(99)
	}
}

func spoil(x *tree.Tree) {
	for k := range x.Kids {
		spoil(&x.Kids[k])
	}
	x.Prod = 97
}
