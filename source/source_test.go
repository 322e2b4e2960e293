package source_test

import (
	"math"
	"reflect"
	"slices"
	"strings"
	"testing"

	"primer/api"
	"primer/least"
	"primer/plain"
	"primer/source"
	"primer/syntax"
	"primer/tree"
)

func rule(name string, kids ...source.Node) source.Node {
	return source.Node{Name: name, Kids: kids}
}

func lit(text string) source.Node {
	return source.Node{Name: text, Lit: true}
}

// lits: a node of each byte of a text.
func lits(text string) []source.Node {
	var l []source.Node
	for k := range len(text) {
		l = append(l, lit(text[k:k+1]))
	}
	return l
}

func to(left int, right ...int) plain.Prod {
	return plain.Prod{Left: left, Right: right}
}

func node(prod int, kids ...tree.Tree) tree.Tree {
	return tree.Tree{Prod: prod, Kids: kids}
}

// read a grammar's text.
func read(t *testing.T, text string) (syntax.Grammar, plain.Grammar) {
	t.Helper()
	g, fault := syntax.Parse(text)
	if fault.Code != api.OK {
		t.Fatal(text, fault)
	}
	p, err := plain.Desugar(g)
	if err != api.OK {
		t.Fatal(text, err)
	}
	return g, p
}

// bodyOf a rule of a text.
func bodyOf(t *testing.T, text string) syntax.Node {
	t.Helper()
	g, fault := syntax.Parse("a:" + text + ";")
	if fault.Code != api.OK {
		t.Fatal(text, fault)
	}
	return g.Rules[0].Body
}

func none(n source.Node) bool {
	return n.Name == "" && !n.Lit && len(n.Kids) == 0
}

func TestExample(t *testing.T) {
	g, p := read(t, "S: 'x'* a; a: 'y'|;")
	x, err := least.Tree(p, []int{0, 0, 1})
	if err != api.OK {
		t.Fatal(err)
	}
	n, err := source.Of(p, x)
	if err != api.OK || source.Text(n) != "(S 'x' 'x' (a 'y'))" || !source.Check(g, n) || !slices.Equal(source.Yield(n), []string{"x", "x", "y"}) {
		t.Error(n, err)
	}
}

// TestOf: the nodes that were made for a body's are gone, however they stand in one another.
func TestOf(t *testing.T) {
	for _, c := range []struct{ text, word, want string }{
		{"S: ;", "", "(S)"},
		{"S: 'x';", "x", "(S 'x')"},
		{"S: a; a: b 'y'; b: 'x';", "xy", "(S (a (b 'x') 'y'))"},
		{"S: 'x'*;", "", "(S)"},
		{"S: 'x'*;", "xxx", "(S 'x' 'x' 'x')"},
		{"S: 'x'+ 'y'?;", "xxy", "(S 'x' 'x' 'y')"},
		{"S: 'x'+ 'y'?;", "x", "(S 'x')"},
		{"S: (('x' 'y') ('x'|'y'));", "xyx", "(S 'x' 'y' 'x')"},
		{"S: {[{'x' a} 'y'] b}; a: 'y'|; b: 'z';", "xyxyzz", "(S 'x' (a 'y') 'x' (a) 'y' (b 'z') (b 'z'))"},
		{"S: a* b; a: 'x'; b: a+;", "xx", "(S (b (a 'x') (a 'x')))"},
		{"%b; S: 'y'; b: S (S|b 'x')?;", "yy", "(b (S 'y') (S 'y'))"},
		{"S: {a}; a: {S 'y'};", "yy", "(S (a (S) 'y' (S) 'y'))"},
		{"S: '(' {S} ')'|'x';", "(x(x)())", "(S '(' (S 'x') (S '(' (S 'x') ')') (S '(' ')') ')')"},
	} {
		g, p := read(t, c.text)
		word, ok := plain.Word(p, strings.Split(c.word, "")[:len(c.word)])
		x, err := least.Tree(p, word)
		if !ok || err != api.OK {
			t.Fatal(c.text, ok, err)
		}
		n, err := source.Of(p, x)
		if err != api.OK || source.Text(n) != c.want || !source.Check(g, n) || strings.Join(source.Yield(n), "") != c.word {
			t.Error(c.text, c.word, source.Text(n), err, c.want)
		}
	}
}

// TestOfByHand: grammars that no text has, whose made nonterminals have rules below them, and roots of all sorts.
func TestOfByHand(t *testing.T) {
	// 0 A -> m A; 1 A -> 'x'; 2 B -> n; 3 m -> n n; 4 m ->; 5 n -> 'y' A; 6 n -> m
	p := plain.Grammar{Start: 2, Rules: 2, Names: []string{"A", "\xff b", "m", "n"}, Terms: []string{"x", "'\n"}, Prods: []plain.Prod{
		to(0, 2, 0), to(0, -1), to(1, 3), to(2, 3, 3), to(2), to(3, -2, 0), to(3, 2),
	}}
	a, m := node(1, node(-1)), node(4)
	n := node(5, node(-2), node(0, m, a))
	for _, c := range []struct {
		t    tree.Tree
		want source.Node
	}{
		{node(-1), lit("x")},
		{node(-2), lit("'\n")},
		{a, rule("A", lit("x"))},
		{node(0, m, a), rule("A", rule("A", lit("x")))},
		{node(2, n), rule("\xff b", lit("'\n"), rule("A", rule("A", lit("x"))))},
		{node(2, node(6, m)), rule("\xff b")},
		{node(2, node(6, node(3, node(6, m), n))), rule("\xff b", lit("'\n"), rule("A", rule("A", lit("x"))))},
		{node(0, node(3, n, n), node(0, m, a)), rule("A", lit("'\n"), rule("A", rule("A", lit("x"))), lit("'\n"), rule("A", rule("A", lit("x"))), rule("A", rule("A", lit("x"))))},
	} {
		got, err := source.Of(p, c.t)
		if err != api.OK || !same(got, c.want) {
			t.Error(c.t, got, err)
		}
	}
	for what, x := range map[string]tree.Tree{
		"a made root": m, "another made root": n, "a made root of rules": node(3, node(6, m), n),
		"no production": node(7), "no terminal": node(-3), "a large number": node(math.MaxInt), "a small one": node(math.MinInt),
		"a kid missing": node(0, m), "no kids": node(2), "a kid too many": node(1, node(-1), node(-1)), "kids of a terminal": node(-1, node(-1)),
		"another kid": node(1, node(-2)), "kids the wrong way round": node(0, a, m), "wrong below": node(2, node(5, node(-2), node(0, m, node(1)))),
		"wrong below what was made": node(2, node(6, node(3, n, node(6)))),
	} {
		if got, err := source.Of(p, x); err != api.ErrArg || !none(got) {
			t.Error(what, got, err)
		}
	}
}

// TestRules: which nonterminals are a rule's.
func TestRules(t *testing.T) {
	p := plain.Grammar{Names: []string{"a", "b"}, Terms: []string{"x"}, Prods: []plain.Prod{to(0, 1, 1), to(1, -1)}}
	b := node(1, node(-1))
	for rules, want := range map[int][]string{0: {"", "", "'x'"}, 1: {"(a 'x' 'x')", "", "'x'"}, 2: {"(a (b 'x') (b 'x'))", "(b 'x')", "'x'"}, 3: {"", "", ""}, -1: {"", "", ""}} {
		p.Rules = rules
		for k, x := range []tree.Tree{node(0, b, b), b, node(-1)} {
			got, err := source.Of(p, x)
			if want[k] == "" && (err != api.ErrArg || !none(got)) || want[k] != "" && (err != api.OK || source.Text(got) != want[k]) {
				t.Error(rules, x, got, err)
			}
		}
	}
}

func TestUnsound(t *testing.T) {
	for what, spoil := range map[string]func(p *plain.Grammar){
		"no start":      func(p *plain.Grammar) { p.Start = 2 },
		"names alike":   func(p *plain.Grammar) { p.Names[1] = "a" },
		"an empty name": func(p *plain.Grammar) { p.Names[1] = "" },
		"terms alike":   func(p *plain.Grammar) { p.Terms = []string{"x", "x"} },
		"a long term":   func(p *plain.Grammar) { p.Terms[0] = strings.Repeat("a", api.MaxLiteral+1) },
		"no symbol":     func(p *plain.Grammar) { p.Prods[1].Right = []int{2} },
		"falling":       func(p *plain.Grammar) { p.Prods = append(p.Prods, to(0)) },
		"nothing":       func(p *plain.Grammar) { *p = plain.Grammar{} },
	} {
		p := plain.Grammar{Rules: 2, Names: []string{"a", "b"}, Terms: []string{"x"}, Prods: []plain.Prod{to(0, -1), to(1)}}
		if n, err := source.Of(p, node(0, node(-1))); err != api.OK || source.Text(n) != "(a 'x')" {
			t.Fatal(n, err)
		}
		spoil(&p)
		for _, x := range []tree.Tree{node(0, node(-1)), node(1), node(-1), {}} {
			if n, err := source.Of(p, x); err != api.ErrArg || !none(n) {
				t.Error(what, x, n, err)
			}
		}
	}
}

func TestMatches(t *testing.T) {
	x, y, a := lit("x"), lit("y"), rule("a")
	for text, c := range map[string]struct{ yes, no [][]source.Node }{
		"":                  {[][]source.Node{nil, {}}, [][]source.Node{{x}, {a}, {rule("")}, {lit("")}}},
		"'x'":               {[][]source.Node{{x}}, [][]source.Node{nil, {y}, {a}, {rule("x")}, {x, x}, {lit("X")}, {lit("")}, {lit("xx")}}},
		"a":                 {[][]source.Node{{a}}, [][]source.Node{nil, {x}, {lit("a")}, {rule("b")}, {rule("A")}, {rule("")}, {a, a}}},
		"'x' a":             {[][]source.Node{{x, a}}, [][]source.Node{nil, {x}, {a}, {a, x}, {x, a, a}, {x, x, a}, {x, y}}},
		"'x'|a":             {[][]source.Node{{x}, {a}}, [][]source.Node{nil, {x, a}, {y}, {a, x}, {rule(""), x}, {x, rule("")}, {rule(""), a}}},
		"'x'|a|":            {[][]source.Node{{x}, {a}, nil}, [][]source.Node{{x, a}, {y}, {x, x}}},
		"'x' 'x'|'x' a|y":   {[][]source.Node{{x, x}, {x, a}, {rule("y")}}, [][]source.Node{nil, {x}, {y}, {a, x}, {x, x, a}}},
		"'x'?":              {[][]source.Node{nil, {x}}, [][]source.Node{{x, x}, {a}, {y}}},
		"['x' a]":           {[][]source.Node{nil, {x, a}}, [][]source.Node{{x}, {a}, {x, a, x, a}}},
		"[] a":              {[][]source.Node{{a}}, [][]source.Node{nil, {a, a}}},
		"'x'*":              {[][]source.Node{nil, {x}, {x, x}, lits("xxxxxxx")}, [][]source.Node{{y}, {x, y}, {y, x}, {x, a}, lits("xxxyxxx"), {rule("")}, {x, rule("")}, {rule(""), x}}},
		"{'x' a}":           {[][]source.Node{nil, {x, a}, {x, a, x, a}}, [][]source.Node{{x}, {a}, {x, a, x}, {x, x, a, a}}},
		"'x'+":              {[][]source.Node{{x}, {x, x}, lits("xxxxxxx")}, [][]source.Node{nil, {y}, {x, y}, {y, x}, lits("xxxyxxx")}},
		"('x' a)+ 'x'":      {[][]source.Node{{x, a, x}, {x, a, x, a, x}}, [][]source.Node{nil, {x}, {x, a}, {x, a, a, x}}},
		"('x'|'y')+":        {[][]source.Node{{x}, {y}, lits("xyyxy")}, [][]source.Node{nil, {a}, {x, a}}},
		"'x'* 'y'*":         {[][]source.Node{nil, {x}, {y}, {x, y}, lits("xxyyy")}, [][]source.Node{{y, x}, lits("xyx"), {a}}},
		"'x'? 'x'? 'x'":     {[][]source.Node{{x}, {x, x}, {x, x, x}}, [][]source.Node{nil, lits("xxxx"), {x, y}}},
		"'x'* 'x' 'x'":      {[][]source.Node{{x, x}, lits("xxx"), lits("xxxxxx")}, [][]source.Node{nil, {x}, lits("xxy")}},
		"('x'|'x' 'y') 'y'": {[][]source.Node{{x, y}, {x, y, y}}, [][]source.Node{{x}, lits("xyyy"), {y, y}}},
		// what may be nothing, again and again
		"{}":              {[][]source.Node{nil}, [][]source.Node{{x}, {a}}},
		"()+":             {[][]source.Node{nil}, [][]source.Node{{x}, {a}}},
		"{{'x'}*}":        {[][]source.Node{nil, {x}, lits("xxxx")}, [][]source.Node{{y}, {x, y}}},
		"({'x'}+)+":       {[][]source.Node{nil, {x}, lits("xxxx")}, [][]source.Node{{y}, {x, y}}},
		"(['x'] ['y'])+":  {[][]source.Node{nil, {y}, {y, x}, lits("xyyx")}, [][]source.Node{{a}, {x, a}}},
		"(|'x'|)+ 'y'":    {[][]source.Node{{y}, {x, y}, lits("xxxy")}, [][]source.Node{nil, {x}, {y, y}, {y, x}}},
		"({'x'}+ 'y'+)*":  {[][]source.Node{nil, {y}, lits("xyy"), lits("yxxyxy")}, [][]source.Node{{x}, {y, x}}},
		"{'x' ()} ('y')*": {[][]source.Node{nil, {x}, {y}, lits("xxyy")}, [][]source.Node{{y, x}}},
	} {
		body := bodyOf(t, text)
		for _, kids := range c.yes {
			if !source.Matches(body, kids) {
				t.Error(text, kids)
			}
		}
		for _, kids := range c.no {
			if source.Matches(body, kids) {
				t.Error("not", text, kids)
			}
		}
	}
}

// TestMatchesAnyKids: what Kids the nodes have doesn't matter.
func TestMatchesAnyKids(t *testing.T) {
	body := bodyOf(t, "'x' b*")
	spoilt := lit("x")
	spoilt.Kids = []source.Node{rule("c"), lit("")}
	if !source.Matches(body, []source.Node{spoilt, rule("b", rule("nobody's")), rule("b", spoilt)}) {
		t.Error("kids' kids")
	}
}

func improper() map[string]syntax.Node {
	x := syntax.Node{Kind: syntax.Lit, Text: "x"}
	long := strings.Repeat("x", api.MaxName+1)
	return map[string]syntax.Node{
		"nothing":         {},
		"another kind":    {Kind: 8},
		"no good name":    {Kind: syntax.Ref, Text: "1"},
		"no name":         {Kind: syntax.Ref},
		"a long name":     {Kind: syntax.Ref, Text: long},
		"kids of a Ref":   {Kind: syntax.Ref, Text: "a", Kids: []syntax.Node{x}},
		"an empty Lit":    {Kind: syntax.Lit},
		"a long Lit":      {Kind: syntax.Lit, Text: long},
		"kids of a Lit":   {Kind: syntax.Lit, Text: "x", Kids: []syntax.Node{x}},
		"a Seq of one":    {Kind: syntax.Seq, Kids: []syntax.Node{x}},
		"a Seq's text":    {Kind: syntax.Seq, Text: "x"},
		"an Alt of none":  {Kind: syntax.Alt},
		"an Alt of one":   {Kind: syntax.Alt, Kids: []syntax.Node{x}},
		"an Opt of none":  {Kind: syntax.Opt},
		"a Star of none":  {Kind: syntax.Star},
		"a Plus of none":  {Kind: syntax.Plus},
		"an Opt of two":   {Kind: syntax.Opt, Kids: []syntax.Node{x, x}},
		"a Star of two":   {Kind: syntax.Star, Kids: []syntax.Node{x, x}},
		"a Plus of two":   {Kind: syntax.Plus, Kids: []syntax.Node{x, x}},
		"a Plus's text":   {Kind: syntax.Plus, Text: "x", Kids: []syntax.Node{x}},
		"a kid improper":  {Kind: syntax.Star, Kids: []syntax.Node{{Kind: syntax.Opt, Kids: []syntax.Node{{}}}}},
		"a row improper":  {Kind: syntax.Alt, Kids: []syntax.Node{x, {Kind: syntax.Lit}}},
		"an item is none": {Kind: syntax.Seq, Kids: []syntax.Node{x, {}}},
	}
}

func TestImproper(t *testing.T) {
	for what, body := range improper() {
		for _, kids := range [][]source.Node{nil, {lit("x")}, {lit("")}, {rule("")}, {rule("1")}, {rule("a")}, {lit("x"), lit("x")}} {
			if source.Matches(body, kids) {
				t.Error(what, kids)
			}
		}
		g := syntax.Grammar{Start: "a", Rules: []syntax.Rule{{Name: "a", Body: syntax.Node{Kind: syntax.Seq}}, {Name: "b", Body: body}}}
		if source.Check(g, rule("a")) || source.Check(g, lit("x")) || source.Check(g, rule("b", lit("x"))) {
			t.Error(what)
		}
	}
	for _, g := range []syntax.Grammar{
		{}, {Start: "a"}, {Rules: []syntax.Rule{{Name: "a", Body: syntax.Node{Kind: syntax.Seq}}}},
		{Start: "a", Rules: []syntax.Rule{{Name: "a", Body: syntax.Node{Kind: syntax.Seq}}, {Name: "b c", Body: syntax.Node{Kind: syntax.Seq}}}},
	} {
		if source.Check(g, rule("a")) || source.Check(g, lit("x")) {
			t.Error(g)
		}
	}
}

func TestCheck(t *testing.T) {
	x, y := lit("x"), lit("y")
	withKids := lit("x")
	withKids.Kids = []source.Node{y}
	for _, c := range []struct {
		text string
		n    source.Node
		want bool
	}{
		{"S: 'x'* a; a: 'y'|;", rule("S", x, x, rule("a", y)), true},
		{"S: 'x'* a; a: 'y'|;", rule("S", rule("a")), true},
		{"S: 'x'* a; a: 'y'|;", rule("a", y), true},
		{"S: 'x'* a; a: 'y'|;", rule("S", x, x), false},
		{"S: 'x'* a; a: 'y'|;", rule("S", x, rule("a", x)), false},
		{"S: 'x'* a; a: 'y'|;", rule("S", x, rule("b", y)), false},
		{"S: 'x'* a; a: 'y'|;", rule("b", y), false},
		{"S: 'x'* a; a: 'y'|;", rule(""), false},
		{"S: 'x'* a; a: 'y'|;", rule("S.1"), false},
		{"S: 'x'* a; a: 'y'|;", rule("S", withKids, rule("a")), false},
		{"S: 'x'* a; a: 'y'|;", rule("S", x, rule("a", withKids)), false},
		{"S: 'x' a; a: 'y'|;", rule("S", lit("x"), lit("a")), false},
		{"S: 'x' a; a: 'y'|;", rule("S", rule("x"), rule("a")), false},
		{"S: S S|'x';", rule("S", rule("S", rule("S", x), rule("S", x)), rule("S", x)), true},
		{"S: S S|'x';", rule("S", rule("S", rule("S", x), rule("S", x)), rule("S", y)), false},
		{"S: S S|'x';", rule("S", rule("S", rule("S", x), rule("S")), rule("S", x)), false},
		{"%b; a: b; b: 'x';", rule("a", rule("b", x)), true},
		// a terminal of any bytes
		{"S: 'x';", x, true},
		{"S: 'x';", y, true},
		{"S: 'x';", lit(""), true},
		{"S: 'x';", withKids, false},
		{"S: ;", lit("S"), true},
		// grammars that aren't sound
		{"S: 'x'; a: b;", rule("S", x), false},
		{"S: 'x'; a: b;", x, false},
		{"S: 'x'; S: 'x';", rule("S", x), false},
		{"%a; S: 'x';", rule("S", x), false},
		{"%a; S: 'x';", x, false},
	} {
		g, fault := syntax.Parse(c.text)
		if fault.Code != api.OK {
			t.Fatal(c.text, fault)
		}
		if source.Check(g, c.n) != c.want {
			t.Error(c.text, source.Text(c.n), !c.want)
		}
	}
}

func TestWalks(t *testing.T) {
	withKids := lit("'")
	withKids.Kids = []source.Node{lit("y"), rule("a", lit("z"))}
	for _, c := range []struct {
		n     source.Node
		yield []string
		text  string
	}{
		{source.Node{}, nil, "()"},
		{lit(""), []string{""}, "''"},
		{lit("x"), []string{"x"}, "'x'"},
		{lit("it's"), []string{"it's"}, `"it's"`},
		{rule("S"), nil, "(S)"},
		{rule("\xff ("), nil, "(\xff ()"},
		{rule("S", lit("\n"), lit("\x00\\")), []string{"\n", "\x00\\"}, `(S '\n' '\x00\\')`},
		{rule("S", rule("a"), lit("x"), rule("a", rule("b", lit("y"), lit("x")), lit("yy"))), []string{"x", "y", "x", "yy"}, "(S (a) 'x' (a (b 'y' 'x') 'yy'))"},
		{rule("S", withKids, lit("x")), []string{"'", "x"}, `(S "'" 'x')`},
		{withKids, []string{"'"}, `"'"`},
		{rule("a b", rule("", lit("x"))), []string{"x"}, "(a b ( 'x'))"},
	} {
		if got := source.Yield(c.n); !slices.Equal(got, c.yield) {
			t.Errorf("%v: %q", c.n, got)
		}
		if got := source.Text(c.n); got != c.text {
			t.Errorf("%v: %s", c.n, got)
		}
	}
}

// TestSoon: bodies that may be nothing in many ways, and of many rows, are told soon of many nodes.
func TestSoon(t *testing.T) {
	many := lits(strings.Repeat("x", 5000))
	for _, c := range []struct {
		text string
		kids int
		want bool
	}{
		{strings.Repeat("'x'? ", 1000) + strings.Repeat("'x' ", 1000), 1500, true},
		{strings.Repeat("'x'? ", 1000) + strings.Repeat("'x' ", 1000), 2000, true},
		{strings.Repeat("'x'? ", 1000) + strings.Repeat("'x' ", 1000), 2001, false},
		{strings.Repeat("'x'? ", 1000) + strings.Repeat("'x' ", 1000), 999, false},
		{strings.Repeat("'x'* ", 1000), 5000, true},
		{strings.Repeat("'x'* ", 1000) + "'y'", 5000, false},
		{strings.Repeat("{", 16) + "'x'" + strings.Repeat("}", 16), 5000, true},
		{strings.Repeat("(", 16) + "'x'*" + strings.Repeat(")+", 16), 5000, true},
		{"(('x'|'x' 'x')* ['x'])+", 5000, true},
		{"(('x'|'x' 'x')* ['x'])+ 'y'", 5000, false},
		{"({'x'|'y'}" + strings.Repeat("|'x'", 1500) + ")+ 'x'", 5000, true},
		{"{'x' 'x'}", 5000, true},
		{"{'x' 'x'}", 4999, false},
		{"a*|{" + strings.Repeat("'x'?|", 1000) + "} {'x'|'y' b}", 5000, true},
	} {
		if source.Matches(bodyOf(t, c.text), many[:c.kids]) != c.want {
			t.Error(c.text[:min(len(c.text), 40)], c.kids, !c.want)
		}
	}
	deep := syntax.Node{Kind: syntax.Lit, Text: "x"}
	for k := range 60000 {
		deep = syntax.Node{Kind: syntax.Opt + k%3, Kids: []syntax.Node{deep}}
	}
	if !source.Matches(deep, many[:20]) || source.Matches(deep, append(lits("xx"), lit("y"))) {
		t.Error("a deep body")
	}
}

// TestDeep: trees as deep and as wide as may be.
func TestDeep(t *testing.T) {
	const most = 60000
	g, p := read(t, "S: 'x' S|;")
	x := node(1)
	for range most {
		x = node(0, node(-1), x)
	}
	n, err := source.Of(p, x)
	if err != api.OK || !source.Check(g, n) || len(source.Yield(n)) != most || len(source.Text(n)) != 8*most+3 {
		t.Error(err)
	}
	g, p = read(t, "S: 'x'*;")
	x = node(1)
	for range most {
		x = node(2, node(-1), x)
	}
	n, err = source.Of(p, node(0, x))
	if err != api.OK || len(n.Kids) != most || !source.Check(g, n) || len(source.Yield(n)) != most || len(source.Text(n)) != 4*most+3 {
		t.Error(err, len(n.Kids))
	}
	n.Kids[most-1].Name = "y"
	if source.Check(g, n) {
		t.Error("the last")
	}
}

// TestNewMemory: what is handed in stays, and an answer shares nothing with it, with another one or with itself.
func TestNewMemory(t *testing.T) {
	g, p := read(t, "S: {a 'x'|b} a; a: 'y'|; b: a a;")
	word := []int{1, 0, 0, 1}
	x, err := least.Tree(p, word)
	if err != api.OK {
		t.Fatal(err)
	}
	kept, _ := least.Tree(p, word)
	first, _ := source.Of(p, x)
	second, _ := source.Of(p, x)
	want := "(S (a 'y') 'x' (a) 'x' (a 'y'))"
	if source.Text(first) != want || !source.Check(g, first) {
		t.Fatal(source.Text(first))
	}
	rooms(first)
	if source.Text(first) != want {
		t.Error("shares with itself", source.Text(first))
	}
	names := source.Yield(first)
	clear(names[:cap(names)])
	again, _ := syntax.Parse("S: {a 'x'|b} a; a: 'y'|; b: a a;")
	if !source.Check(g, second) || !source.Matches(g.Rules[0].Body, second.Kids) || source.Text(first) != want || !reflect.DeepEqual(g, again) {
		t.Error("changed")
	}
	spoil(&first)
	if source.Text(second) != want || !tree.Same(x, kept) || !plain.Sound(p) {
		t.Error("shares", source.Text(second))
	}
}

// rooms fills the room behind the Kids of each node.
func rooms(n source.Node) {
	for _, kid := range n.Kids {
		rooms(kid)
	}
	for k := range n.Kids[len(n.Kids):cap(n.Kids)] {
		n.Kids[len(n.Kids):cap(n.Kids)][k] = rule("spoilt")
	}
}

func spoil(n *source.Node) {
	for k := range n.Kids {
		spoil(&n.Kids[k])
	}
	n.Name, n.Lit = "spoilt", !n.Lit
}

func same(a, b source.Node) bool {
	return a.Name == b.Name && a.Lit == b.Lit && slices.EqualFunc(a.Kids, b.Kids, same)
}
