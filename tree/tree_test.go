package tree_test

import (
	"math"
	"slices"
	"strings"
	"testing"

	"primer/api"
	"primer/plain"
	"primer/tree"
)

func to(left int, right ...int) plain.Prod {
	return plain.Prod{Left: left, Right: right}
}

func node(prod int, kids ...tree.Tree) tree.Tree {
	return tree.Tree{Prod: prod, Kids: kids}
}

// line: S -> 'x' S; S ->.
func line() plain.Grammar {
	return plain.Grammar{Rules: 1, Names: []string{"S"}, Terms: []string{"x"}, Prods: []plain.Prod{to(0, -1, 0), to(0)}}
}

// both: 0 S -> a 'x' b; 1 S -> S; 2 a -> 'y' 'y'; 3 a ->; 4 b -> a S; 5 b -> 'x'.
func both() plain.Grammar {
	return plain.Grammar{
		Rules: 3, Names: []string{"S", "a", "b"}, Terms: []string{"x", "y"},
		Prods: []plain.Prod{to(0, 1, -1, 2), to(0, 0), to(1, -2, -2), to(1), to(2, 1, 0), to(2, -1)},
	}
}

// large: a tree of both's: yy x (a S), where the S is x x.
func large() tree.Tree {
	small := node(0, node(3), node(-1), node(5, node(-1)))
	return node(1, node(0, node(2, node(-2), node(-2)), node(-1), node(4, node(3), small)))
}

// A deep tree of line's: so many x.
func deep(n int) tree.Tree {
	t := node(1)
	for range n {
		t = node(0, node(-1), t)
	}
	return t
}

// unsound grammars, of which no tree is.
func unsound() map[string]plain.Grammar {
	l := map[string]plain.Grammar{
		"no start":      {Start: 1},
		"no symbol":     {Prods: []plain.Prod{to(0, -1, 0), to(0), to(0, 1)}},
		"no terminal":   {Prods: []plain.Prod{to(0, -1, 0), to(0), to(0, -2)}},
		"no left":       {Prods: []plain.Prod{to(0, -1, 0), to(0), to(1)}},
		"falling":       {Names: []string{"S", "a"}, Prods: []plain.Prod{to(1), to(0, -1, 0), to(0)}},
		"names alike":   {Names: []string{"S", "S"}},
		"an empty name": {Names: []string{"S", ""}},
		"terms alike":   {Terms: []string{"x", "x"}},
		"a long term":   {Terms: []string{strings.Repeat("x", api.MaxLiteral+1)}},
		"many rules":    {Rules: 3},
		"a wide side":   {Prods: []plain.Prod{to(0, -1, 0), to(0), to(0, make([]int, api.MaxSide+1)...)}},
		"many prods":    {Prods: append([]plain.Prod{to(0, -1, 0)}, make([]plain.Prod, api.MaxProds)...)},
	}
	for what, p := range l {
		if p.Names == nil {
			p.Names = line().Names
		}
		if p.Terms == nil {
			p.Terms = line().Terms
		}
		if p.Prods == nil {
			p.Prods = line().Prods
		}
		l[what] = p
	}
	l["nothing"] = plain.Grammar{}
	return l
}

func TestCheck(t *testing.T) {
	p := both()
	for what, x := range map[string]tree.Tree{
		"nothing":         node(3),
		"no kids":         {Prod: 3, Kids: []tree.Tree{}},
		"a terminal":      node(-1),
		"another one":     {Prod: -2, Kids: []tree.Tree{}},
		"two":             node(2, node(-2), node(-2)),
		"not the start's": node(4, node(3), node(0, node(3), node(-1), node(5, node(-1)))),
		"large":           large(),
	} {
		if !tree.Check(p, x) {
			t.Error(what)
		}
	}
	for what, x := range map[string]tree.Tree{
		"no kids":             {},
		"no production":       node(6),
		"a great one":         node(math.MaxInt),
		"no terminal":         node(-3),
		"a small one":         node(math.MinInt),
		"a terminal's kid":    node(-1, node(-1)),
		"a kid of none":       node(3, node(3)),
		"one kid fewer":       node(2, node(-2)),
		"one more":            node(2, node(-2), node(-2), node(-2)),
		"another terminal":    node(2, node(-2), node(-1)),
		"a root for a term":   node(2, node(3), node(-2)),
		"a term for a root":   node(1, node(-1)),
		"another root":        node(1, node(3)),
		"wrong far below":     node(1, node(1, node(0, node(3), node(-1), node(5, node(-2))))),
		"kids wrong below":    node(1, node(1, node(0, node(3), node(-1), node(5)))),
		"none there":          node(5, node(-3)),
		"no production below": node(1, node(6)),
		"turned round":        node(4, node(0, node(3), node(-1), node(5, node(-1))), node(3)),
	} {
		if tree.Check(p, x) {
			t.Error(what)
		}
	}
	for what, p := range unsound() {
		for _, x := range []tree.Tree{node(1), node(0, node(-1), node(1)), node(-1)} {
			if tree.Check(p, x) {
				t.Error(what)
			}
		}
	}
	if !tree.Check(line(), deep(3)) || tree.Check(plain.Grammar{Names: []string{"S"}}, node(-1)) || tree.Check(plain.Grammar{Names: []string{"S"}}, node(0)) {
		t.Error("small grammars")
	}
}

func TestSame(t *testing.T) {
	l := []tree.Tree{
		{}, node(1), node(-1), node(-2), node(0, node(0)), node(0, node(1)), node(1, node(0)), node(0, node(0), node(0)), node(0, node(0), node(1)), node(0, node(1), node(0)),
		node(0, node(0, node(0))), node(0, node(0, node(1))), node(0, node(0, node(0)), node(0)), node(0, node(0), node(0, node(0))), node(math.MaxInt), node(math.MinInt),
		node(-1, node(0)), large(), node(1, large()), node(1, deep(5)), deep(5), deep(6),
	}
	for a := range l {
		for b := range l {
			if tree.Same(l[a], l[b]) != (a == b) {
				t.Error(l[a], l[b])
			}
		}
	}
	if !tree.Same(tree.Tree{}, tree.Tree{Kids: []tree.Tree{}}) || !tree.Same(large(), large()) {
		t.Error("without kids")
	}
}

func TestWalks(t *testing.T) {
	for _, c := range []struct {
		t              tree.Tree
		yield, left    []int
		nodes, deepest int
	}{
		{tree.Tree{}, nil, []int{0}, 1, 1},
		{node(-1), []int{0}, nil, 1, 1},
		{node(0, node(-1), node(1)), []int{0}, []int{0, 1}, 3, 2},
		{large(), []int{1, 1, 0, 0, 0}, []int{1, 0, 2, 4, 3, 0, 3, 5}, 13, 6},
		// trees of nobody's
		{node(math.MaxInt, node(math.MinInt), node(-4), node(5, node(-4))), []int{math.MaxInt, 3, 3}, []int{math.MaxInt, 5}, 5, 3},
		{node(-3, node(-1), node(7, node(8), node(-2))), []int{2}, []int{7, 8}, 5, 3},
		{node(1, node(-3, node(-1, node(2))), node(-5)), []int{2, 4}, []int{1, 2}, 5, 4},
		{node(1, node(2, node(3, node(4))), node(5, node(6), node(7)), node(8)), nil, []int{1, 2, 3, 4, 5, 6, 7, 8}, 8, 4},
		{node(1, node(2), node(3, node(4)), node(5, node(6, node(7, node(8))), node(9))), nil, []int{1, 2, 3, 4, 5, 6, 7, 8, 9}, 9, 5},
	} {
		nodes, deepest := tree.Size(c.t)
		if !slices.Equal(tree.Yield(c.t), c.yield) || !slices.Equal(tree.Leftmost(c.t), c.left) || nodes != c.nodes || deepest != c.deepest {
			t.Error(c.t, tree.Yield(c.t), tree.Leftmost(c.t), nodes, deepest)
		}
	}
}

func TestReplay(t *testing.T) {
	for _, c := range []struct {
		from int
		l    []int
		want []int
		err  api.Errno
	}{
		{0, nil, []int{0}, api.OK},
		{2, []int{}, []int{2}, api.OK},
		{-2, nil, []int{-2}, api.OK},
		{0, []int{0}, []int{1, -1, 2}, api.OK},
		{0, []int{0, 2}, []int{-2, -2, -1, 2}, api.OK},
		{0, []int{0, 3}, []int{-1, 2}, api.OK},
		{0, []int{1, 1, 1}, []int{0}, api.OK},
		{0, []int{0, 3, 4}, []int{-1, 1, 0}, api.OK},
		{0, []int{0, 3, 4, 3}, []int{-1, 0}, api.OK},
		{0, tree.Leftmost(large()), []int{-2, -2, -1, -1, -1}, api.OK},
		{1, []int{3}, nil, api.OK},
		{2, []int{4, 2, 0, 3, 5}, []int{-2, -2, -1, -1}, api.OK},
		{3, nil, nil, api.ErrArg},
		{-3, nil, nil, api.ErrArg},
		{math.MaxInt, []int{0}, nil, api.ErrArg},
		{math.MinInt, []int{0}, nil, api.ErrArg},
		{0, []int{6}, nil, api.ErrNone},
		{0, []int{-1}, nil, api.ErrNone},
		{0, []int{0, 2, math.MaxInt}, nil, api.ErrNone},
		{0, []int{0, 2, math.MinInt, 0}, nil, api.ErrNone},
		{-1, []int{0}, nil, api.ErrState},
		{1, []int{2, 2}, nil, api.ErrState},
		{1, []int{3, 2}, nil, api.ErrState},
		{0, []int{2}, nil, api.ErrKind},
		{0, []int{0, 4}, nil, api.ErrKind},
		{0, []int{0, 2, 0}, nil, api.ErrKind},
		// of one place the first that is told; of several the first place
		{-1, []int{6}, nil, api.ErrNone},
		{1, []int{3, -1}, nil, api.ErrNone},
		{1, []int{3, 2, -1}, nil, api.ErrState},
		{1, []int{0, 3, 3, -1}, nil, api.ErrKind},
		{3, []int{-1}, nil, api.ErrArg},
	} {
		if l, err := tree.Replay(both(), c.from, c.l); !slices.Equal(l, c.want) || err != c.err {
			t.Error(c.from, c.l, l, err)
		}
	}
	for what, p := range unsound() {
		for _, from := range []int{0, -1, 9} {
			for _, l := range [][]int{nil, {1}, {7}} {
				if l, err := tree.Replay(p, from, l); len(l) > 0 || err != api.ErrArg {
					t.Error(what, from, l, err)
				}
			}
		}
	}
}

// TestReplayLong: symbols up to as many as may be, whatever they are, and one more.
func TestReplayLong(t *testing.T) {
	const most = 65536
	// 0 a -> a x; 1 a -> x a; 2 a -> a a; 3 a -> ; 4 a -> x x x; 5 a -> a
	p := plain.Grammar{Names: []string{"a"}, Terms: []string{"x"}, Prods: []plain.Prod{to(0, 0, -1), to(0, -1, 0), to(0, 0, 0), to(0), to(0, -1, -1, -1), to(0, 0)}}
	for _, grows := range []int{0, 1, 2} {
		l := slices.Repeat([]int{grows}, most-1)
		got, err := tree.Replay(p, 0, l)
		if len(got) != most || err != api.OK {
			t.Fatal(grows, len(got), err)
		}
		for more, want := range map[int]api.Errno{0: api.ErrLong, 1: api.ErrLong, 2: api.ErrLong, 3: api.OK, 4: api.ErrLong, 5: api.OK, 6: api.ErrNone} {
			if got, err := tree.Replay(p, 0, append(l[:most-1:most-1], more)); err != want || (len(got) > 0) != (want == api.OK) {
				t.Error(grows, more, len(got), err)
			}
		}
		for more, want := range map[int]int{4: most, 3: most - 3} {
			if got, err := tree.Replay(p, 0, append(l[:most-3:most-3], more)); err != api.OK || len(got) != want {
				t.Error(grows, more, len(got), err)
			}
		}
		if got, err := tree.Replay(p, 0, append(l[:most-2:most-2], 4)); err != api.ErrLong || len(got) > 0 {
			t.Error(grows, len(got), err)
		}
	}
	// many steps of many symbols that stay as many
	l := slices.Concat(slices.Repeat([]int{2}, 30000), slices.Repeat([]int{5}, 1000000), slices.Repeat([]int{3, 5, 5, 1}, 20000))
	if got, err := tree.Replay(p, 0, l); err != api.OK || len(got) != 30001 || got[0] != -1 || got[20000] != 0 {
		t.Error(len(got), err)
	}
}

func TestBytes(t *testing.T) {
	for _, c := range []struct {
		t    tree.Tree
		want string
	}{
		{tree.Tree{}, "\x00"},
		{node(-1), "\x81\x01"},
		{node(0, node(-1), node(1)), "\x00\x81\x01\x01\x01"},
		{node(256, node(-256), node(2)), "\x02\x01\x00\x82\x01\x00\x01\x02"},
		{node(-1, node(-2), node(3, node(4))), "\x81\x01\x81\x02\x01\x03\x01\x04"},
		{node(math.MaxInt, node(1), node(math.MinInt, node(2)), node(api.MaxNumber+1)), "\x01\x01\x01\x02"},
		{node(api.MaxNumber), "\x07\x20\x00\x00\x00\x00\x00\x00"},
	} {
		if s := tree.Put(c.t); s != c.want {
			t.Errorf("%v: %x", c.t, s)
		}
	}
}

func TestGet(t *testing.T) {
	for _, x := range []tree.Tree{node(3), node(-1), node(-2), large(), node(4, node(3), node(1, node(1, node(0, node(2, node(-2), node(-2)), node(-1), node(5, node(-1))))))} {
		got, err := tree.Get(both(), tree.Put(x))
		if err != api.OK || !tree.Same(got, x) {
			t.Error(x, got, err)
		}
		for _, more := range []string{"\x00", "\x08", "\x01", tree.Put(x)} {
			if got, err := tree.Get(both(), tree.Put(x)+more); err != api.ErrTail || !tree.Same(got, tree.Tree{}) {
				t.Errorf("%v and %x: %v", x, more, err)
			}
		}
		s := tree.Put(x)
		for k := range s {
			if got, err := tree.Get(both(), s[:k]); err != api.ErrShort || !tree.Same(got, tree.Tree{}) {
				t.Errorf("%v up to %d: %v", x, k, err)
			}
		}
	}
}

func TestGetWrong(t *testing.T) {
	for s, want := range map[string]api.Errno{
		"":                                 api.ErrShort,
		"\x08":                             api.ErrForm,
		"\x80":                             api.ErrForm,
		"\x01":                             api.ErrShort,
		"\x01\x00":                         api.ErrForm,
		"\x02\x00\x01":                     api.ErrForm,
		"\x07\xff":                         api.ErrShort,
		"\x07" + strings.Repeat("\xff", 7): api.ErrForm,
		"\x01\x06":                         api.ErrNone,
		"\x81\x03":                         api.ErrNone,
		"\x07\x20\x00\x00\x00\x00\x00\x00": api.ErrNone,
		"\x87\x20\x00\x00\x00\x00\x00\x00": api.ErrNone,
		"\x01\x06\x08":                     api.ErrNone,
		"\x01\x02":                         api.ErrShort,
		"\x01\x02\x81\x02":                 api.ErrShort,
		"\x01\x02\x08":                     api.ErrForm,
		"\x01\x02\x81\x01":                 api.ErrKind, // another terminal
		"\x01\x02\x01\x03":                 api.ErrKind, // a production for a terminal
		"\x01\x01\x81\x01":                 api.ErrKind, // a terminal for a nonterminal
		"\x01\x01\x01\x02":                 api.ErrKind, // of another nonterminal
		"\x01\x02\x81\x03":                 api.ErrNone, // neither its own nor another's
		"\x01\x02\x81\x02\x01\x09":         api.ErrNone, // the second kid
		// the first node with which something is wrong
		"\x01\x02\x81\x01\x01\x09":             api.ErrKind,
		"\x01\x02\x01\x09\x81\x01":             api.ErrNone,
		"\x01\x02\x08\x81\x01":                 api.ErrForm,
		"\x01\x02\x81\x01\x08":                 api.ErrKind,
		"\x01\x03\x01\x09":                     api.ErrTail,
		"\x00\x01\x03\x81\x01\x01\x05\x81\x01": api.OK,
		"\x00\x01\x03\x81\x01\x01\x05\x81\x02": api.ErrKind,
		"\x00\x01\x03\x81\x01\x01\x03":         api.ErrKind,
		"\x00\x01\x03\x81\x02\x01\x07":         api.ErrKind,
	} {
		got, err := tree.Get(both(), s)
		if err != want || tree.Same(got, tree.Tree{}) != (want != api.OK) {
			t.Errorf("%x: %v, %d, not %d", s, got, err, want)
		}
	}
	for what, p := range unsound() {
		for _, s := range []string{"", "\x01\x01", "\x01\x07", "\x81\x01", "\x08"} {
			if got, err := tree.Get(p, s); err != api.ErrArg || !tree.Same(got, tree.Tree{}) {
				t.Error(what, got, err)
			}
		}
	}
}

// TestGetLong: trees of as many nodes as may be, deep or wide, and of one more.
func TestGetLong(t *testing.T) {
	const most = 65536
	// 0 a -> a; 1 a ->; 2 a -> x a; 3 a -> a a; 4 a -> x x
	p := plain.Grammar{Names: []string{"a"}, Terms: []string{"x"}, Prods: []plain.Prod{to(0, 0), to(0), to(0, -1, 0), to(0, 0, 0), to(0, -1, -1)}}
	chain := strings.Repeat("\x00", most-1)
	x := "\x81\x01"
	halves := strings.Repeat("\x01\x02"+x, most/2-1)
	for s, want := range map[string]api.Errno{
		chain + "\x01\x01":                      api.OK,
		chain + "\x01\x01\x00":                  api.ErrTail,
		chain + "\x01\x01\x08":                  api.ErrTail,
		chain[1:] + "\x00\x01\x01":              api.OK,
		chain[1:] + "\x01\x02" + x:              api.ErrLong, // what comes isn't there
		chain[2:] + "\x01\x02" + x + "\x01\x01": api.OK,
		chain + "\x00\x01\x01":                  api.ErrLong,
		chain + "\x00\x00":                      api.ErrLong,
		chain + "\x00":                          api.ErrLong,
		chain + "\x00\x08":                      api.ErrLong,
		chain + "\x00\x01":                      api.ErrLong,
		// what the node would be comes ahead
		chain + "\x00\x01\x05": api.ErrNone,
		chain + "\x00\x81\x02": api.ErrNone,
		chain + "\x00" + x:     api.ErrKind,
		// wrong ahead of that
		chain:                               api.ErrShort,
		chain + "\x01\x05":                  api.ErrNone,
		chain + "\x08":                      api.ErrForm,
		chain + x:                           api.ErrKind,
		halves + "\x00\x01\x01":             api.OK,
		halves + "\x01\x04" + x + x:         api.ErrLong,
		halves[4:] + "\x00\x01\x04" + x + x: api.OK,
		"\x00" + strings.Repeat("\x01\x03", most/2-1) + strings.Repeat("\x01\x01", most/2): api.OK,
		strings.Repeat("\x01\x03", most/2) + strings.Repeat("\x01\x01", most/2+1):          api.ErrLong,
	} {
		got, err := tree.Get(p, s)
		nodes, _ := tree.Size(got)
		if err != want || err == api.OK && (nodes != most || tree.Put(got) != s || !tree.Check(p, got)) || err != api.OK && !tree.Same(got, tree.Tree{}) {
			t.Errorf("%d bytes, to %x: %d nodes, %d, not %d", len(s), s[len(s)-6:], nodes, err, want)
		}
	}
}

func TestText(t *testing.T) {
	if s := tree.Text(line(), node(0, node(-1), node(1))); s != "(S 'x' (S))" {
		t.Error(s)
	}
	if s := tree.Text(both(), large()); s != "(S (S (a 'y' 'y') 'x' (b (a) (S (a) 'x' (b 'x')))))" {
		t.Error(s)
	}
	p := plain.Grammar{Start: 1, Names: []string{"a b", "\xff(", "a.1"}, Terms: []string{"'", "\n", "\x00\\"}, Prods: []plain.Prod{to(0, -2), to(1, 0, -1, -3, 2, 2), to(2)}}
	if s := tree.Text(p, node(1, node(0, node(-2)), node(-1), node(-3), node(2), node(2))); s != `(`+"\xff("+` (a b '\n') "'" '\x00\\' (a.1) (a.1))` {
		t.Error(s)
	}
	for _, x := range []tree.Tree{node(-1), node(-2), node(-3)} {
		if s := tree.Text(p, x); s != []string{`"'"`, `'\n'`, `'\x00\\'`}[-1-x.Prod] {
			t.Error(s)
		}
	}
	for _, x := range []tree.Tree{{}, node(6), node(-3), node(1, node(3)), node(2, node(-2)), node(3, node(3)), node(-1, node(-1)), node(math.MinInt), node(math.MaxInt)} {
		if s := tree.Text(both(), x); s != "" {
			t.Error(x, s)
		}
	}
	for what, p := range unsound() {
		if s := tree.Text(p, node(1)); s != "" {
			t.Error(what, s)
		}
	}
}

// TestDeep: nodes in one another as deep as may be.
func TestDeep(t *testing.T) {
	x := deep(65530)
	nodes, deepest := tree.Size(x)
	if nodes != 2*65530+1 || deepest != 65531 || !tree.Check(line(), x) || !tree.Same(x, deep(65530)) || tree.Same(x, deep(65529)) {
		t.Error(nodes, deepest)
	}
	if len(tree.Yield(x)) != 65530 || len(tree.Leftmost(x)) != 65531 || len(tree.Text(line(), x)) != 8*65530+3 || len(tree.Put(x)) != 3*65530+2 {
		t.Error(len(tree.Yield(x)), len(tree.Leftmost(x)), len(tree.Text(line(), x)), len(tree.Put(x)))
	}
}

// TestNewMemory: what is handed in stays, and an answer shares nothing with it or with itself.
func TestNewMemory(t *testing.T) {
	p, x := both(), large()
	s := tree.Put(x)
	got, err := tree.Get(p, s)
	again, _ := tree.Get(p, s)
	if err != api.OK {
		t.Fatal(err)
	}
	if rooms(got); !tree.Same(got, large()) {
		t.Error("shares with itself", got)
	}
	spoil(&got)
	if !tree.Same(again, large()) || !plain.Sound(p) || !tree.Same(x, large()) || strings.Join(plain.Lines(p), ";") != strings.Join(plain.Lines(both()), ";") {
		t.Error("shares")
	}
	l := append(tree.Leftmost(x), 77)
	l = l[:len(l)-1]
	for k := range p.Prods {
		p.Prods[k].Right = append(p.Prods[k].Right, 77)[:len(p.Prods[k].Right)]
	}
	for _, steps := range [][]int{nil, l[:1], l[:3], l} {
		made, _ := tree.Replay(p, 0, steps)
		for k := range made[:cap(made)] {
			made[:cap(made)][k] = 99
		}
		if !slices.Equal(l[:9], append(tree.Leftmost(x), 77)) || strings.Join(plain.Lines(p), ";") != strings.Join(plain.Lines(both()), ";") {
			t.Error("shares", steps, l[:9])
		}
		for _, prod := range p.Prods {
			if prod.Right[:len(prod.Right)+1][len(prod.Right)] != 77 {
				t.Error("room", prod)
			}
		}
	}
	for _, ask := range []func(tree.Tree) []int{tree.Yield, tree.Leftmost} {
		a, b := ask(x), ask(x)
		clear(a[:cap(a)])
		if !slices.Equal(b, ask(large())) || !tree.Same(x, large()) {
			t.Error("shares")
		}
	}
}

// spoil all nodes, and the room behind the Kids of each.
func spoil(x *tree.Tree) {
	for k := range x.Kids {
		spoil(&x.Kids[k])
	}
	for k := range x.Kids[:cap(x.Kids)] {
		x.Kids[:cap(x.Kids)][k] = node(99, node(98))
	}
	x.Prod = 97
}

// rooms fills the room behind the Kids of each node.
func rooms(x tree.Tree) {
	for _, kid := range x.Kids {
		rooms(kid)
	}
	for k := range x.Kids[len(x.Kids):cap(x.Kids)] {
		x.Kids[len(x.Kids):cap(x.Kids)][k] = node(99)
	}
}
