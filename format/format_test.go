package format_test

import (
	"math/rand/v2"
	"slices"
	"strings"
	"testing"

	"primer/api"
	"primer/format"
	"primer/lex"
	"primer/syntax"
)

func ref(name string) syntax.Node         { return syntax.Node{Kind: syntax.Ref, Text: name} }
func lit(text string) syntax.Node         { return syntax.Node{Kind: syntax.Lit, Text: text} }
func seq(kids ...syntax.Node) syntax.Node { return syntax.Node{Kind: syntax.Seq, Kids: kids} }
func alt(kids ...syntax.Node) syntax.Node { return syntax.Node{Kind: syntax.Alt, Kids: kids} }
func around(kind int, kid syntax.Node) syntax.Node {
	return syntax.Node{Kind: kind, Kids: []syntax.Node{kid}}
}
func opt(kid syntax.Node) syntax.Node  { return around(syntax.Opt, kid) }
func star(kid syntax.Node) syntax.Node { return around(syntax.Star, kid) }
func plus(kid syntax.Node) syntax.Node { return around(syntax.Plus, kid) }

func grammar(start string, rules ...syntax.Rule) syntax.Grammar {
	return syntax.Grammar{Start: start, Rules: rules}
}

func TestBody(t *testing.T) {
	a, b, x := ref("a"), ref("b-1"), lit("x")
	for want, n := range map[string]syntax.Node{
		"":                                seq(),
		"a":                               a,
		"'x'":                             x,
		`"it's\n\x00"`:                    lit("it's\n\x00"),
		"a b-1 'x'":                       seq(a, b, x),
		"(a b-1) 'x' ()":                  seq(seq(a, b), x, seq()),
		"(a|b-1) (|) a":                   seq(alt(a, b), alt(seq(), seq()), a),
		"a|b-1 'x'|":                      alt(a, seq(b, x), seq()),
		"|":                               alt(seq(), seq()),
		"(a|b-1)|'x'":                     alt(alt(a, b), x),
		"a?":                              opt(a),
		"'x'?":                            opt(x),
		"[a]?":                            opt(opt(a)),
		"[a?]?":                           opt(opt(opt(a))),
		"{a}?":                            opt(star(a)),
		"[a+]":                            opt(plus(a)),
		"[a b-1]":                         opt(seq(a, b)),
		"[]":                              opt(seq()),
		"[a|]":                            opt(alt(a, seq())),
		"[[a b-1]]?":                      opt(opt(opt(seq(a, b)))),
		"a*":                              star(a),
		"'x'*":                            star(x),
		"[a]*":                            star(opt(a)),
		"{a}*":                            star(star(a)),
		"{a+}":                            star(plus(a)),
		"{a b-1}":                         star(seq(a, b)),
		"{}":                              star(seq()),
		"{a|b-1}":                         star(alt(a, b)),
		"[a|b-1]*":                        star(opt(alt(a, b))),
		"{{a}* b-1}?":                     opt(star(seq(star(star(a)), b))),
		"a+":                              plus(a),
		"'x'+":                            plus(x),
		"[a]+":                            plus(opt(a)),
		"{a}+":                            plus(star(a)),
		"(a+)+":                           plus(plus(a)),
		"()+":                             plus(seq()),
		"(a b-1)+":                        plus(seq(a, b)),
		"(a|b-1)+":                        plus(alt(a, b)),
		"a? 'x'* b-1+ [a 'x'] {a|} (a+)+": seq(opt(a), star(x), plus(b), opt(seq(a, x)), star(alt(a, seq())), plus(plus(a))),
		"a*|[b-1|'x']|(|)+":               alt(star(a), opt(alt(b, x)), plus(alt(seq(), seq()))),
	} {
		if got := format.Body(n); got != want {
			t.Errorf("%q, not %q", got, want)
		}
	}
}

// improper nodes and grammars, of each sort one or more.
func improper() []syntax.Node {
	a := ref("a")
	return []syntax.Node{
		{}, {Kind: 8}, {Kind: -1, Text: "a"}, ref(""), ref("1"), ref(strings.Repeat("a", api.MaxName+1)),
		lit(""), lit(strings.Repeat("x", api.MaxLiteral+1)), seq(a), alt(), alt(a), {Kind: syntax.Opt}, {Kind: syntax.Star},
		{Kind: syntax.Plus, Kids: []syntax.Node{a, a}}, {Kind: syntax.Seq, Text: "a"}, {Kind: syntax.Ref, Text: "a", Kids: []syntax.Node{a}},
		seq(a, opt(alt(a, lit("")))),
	}
}

func TestImproper(t *testing.T) {
	check := func(g syntax.Grammar) {
		t.Helper()
		if s, err := format.Text(g); s != "" || err != api.ErrArg {
			t.Error(g, s, err)
		}
		if l, err := format.Listing(g); len(l) > 0 || err != api.ErrArg {
			t.Error(g, l, err)
		}
	}
	for _, n := range improper() {
		if s := format.Body(n); s != "" {
			t.Error(n, s)
		}
		check(grammar("a", syntax.Rule{Name: "a", Body: seq()}, syntax.Rule{Name: "b", Body: n}))
	}
	check(syntax.Grammar{})
	check(grammar("a"))
	check(grammar("", syntax.Rule{Name: "a"}))
	check(grammar("a", syntax.Rule{Name: "a", Body: seq()}, syntax.Rule{Name: "%", Body: seq()}))
	check(grammar("a b", syntax.Rule{Name: "a", Body: seq()}))
}

func TestText(t *testing.T) {
	a, b := syntax.Rule{Name: "a", Body: ref("b")}, syntax.Rule{Name: "b", Body: seq()}
	for want, g := range map[string]syntax.Grammar{
		"a: b;\n":                 grammar("a", a),
		"a: b;\nb: ;\n":           grammar("a", a, b),
		"%b;\na: b;\nb: ;\n":      grammar("b", a, b),
		"%none;\na: b;\n":         grammar("none", a),
		"a: b;\na: b;\n":          grammar("a", a, a),
		"%a;\nb: ;\na: b;\n":      grammar("a", b, a),
		"a: a|'x'* (b|) \"'\";\n": grammar("a", syntax.Rule{Name: "a", Body: alt(ref("a"), seq(star(lit("x")), alt(ref("b"), seq()), lit("'")))}),
	} {
		if got, err := format.Text(g); got != want || err != api.OK {
			t.Errorf("%q %v, not %q", got, err, want)
		}
	}
	g, _ := syntax.Parse("a : ( 'x' b )* | ;")
	if s, err := format.Text(g); s != "a: {'x' b}|;\n" || err != api.OK {
		t.Error(s, err)
	}
}

// TestLong: more than a text, a grammar or its brackets may have is written too.
func TestLong(t *testing.T) {
	many := make([]syntax.Rule, api.MaxRules+1)
	for k := range many {
		many[k] = syntax.Rule{Name: "a", Body: ref("a")}
	}
	if s, err := format.Text(grammar("a", many...)); s != strings.Repeat("a: a;\n", api.MaxRules+1) || err != api.OK {
		t.Error(err)
	}
	wide := make([]syntax.Node, api.MaxText)
	for k := range wide {
		wide[k] = lit("x")
	}
	if s := format.Body(seq(wide...)); s != strings.Repeat("'x' ", api.MaxText-1)+"'x'" {
		t.Error(len(s))
	}
	deep, size := ref("a"), 1<<14
	for range size {
		deep = plus(deep)
	}
	if s := format.Body(deep); s != strings.Repeat("(", size-1)+"a"+strings.Repeat("+)", size-1)+"+" {
		t.Error(len(s))
	}
}

func TestListing(t *testing.T) {
	for text, want := range map[string][]string{
		"a : ( 'x' b )* | ;":             {"a: {'x' b}", " | "},
		"a:;":                            {"a: "},
		"a:|;":                           {"a: ", " | "},
		"abc:'x'|b;b:('x'|abc)|b c;":     {"abc: 'x'", "   | b", "b  : ('x'|abc)", "   | b c"},
		"%start;a:['x'|b];bc:(a|b)c;":    {"a : ['x'|b]", "bc: (a|b) c"},
		"a:b;a:(b|c)*|(|)|a b+;a-1_z:b;": {"a    : b", "a    : {b|c}", "     | (|)", "     | a b+", "a-1_z: b"},
	} {
		g, fault := syntax.Parse(text)
		got, err := format.Listing(g)
		if fault.Code != api.OK || err != api.OK || !slices.Equal(got, want) {
			t.Errorf("%s: %q", text, got)
		}
	}
}

// slow is a node's text: as an atom, as an item, as a row, or alone.
func slow(n syntax.Node, as string) string {
	var kids []string
	under := map[int]string{syntax.Seq: "item", syntax.Alt: "row"}[n.Kind]
	for _, kid := range n.Kids {
		kids = append(kids, slow(kid, under))
	}
	bracketed := func(text string) string { return "(" + text + ")" }
	switch n.Kind {
	case syntax.Ref:
		return n.Text
	case syntax.Lit:
		return lex.Quote(n.Text)
	case syntax.Seq:
		if as == "atom" || as == "item" {
			return bracketed(strings.Join(kids, " "))
		}
		return strings.Join(kids, " ")
	case syntax.Alt:
		if as != "" {
			return bracketed(strings.Join(kids, "|"))
		}
		return strings.Join(kids, "|")
	case syntax.Plus:
		if as == "atom" {
			return bracketed(slow(n.Kids[0], "atom") + "+")
		}
		return slow(n.Kids[0], "atom") + "+"
	}
	open, shut, sign := "[", "]", "?"
	if n.Kind == syntax.Star {
		open, shut, sign = "{", "}", "*"
	}
	if as != "atom" && slices.Contains([]int{syntax.Ref, syntax.Lit, syntax.Opt, syntax.Star}, n.Kids[0].Kind) {
		return slow(n.Kids[0], "atom") + sign
	}
	return open + kids[0] + shut
}

func tokensAndDepth(t *testing.T, s string) (int, int) {
	t.Helper()
	tokens, fault := lex.Scan(s)
	if fault.Code != api.OK {
		t.Fatal(s, fault)
	}
	depth, most := 0, 0
	for _, token := range tokens {
		if token.Kind == lex.Sign && strings.Contains("([{", token.Text) {
			depth++
			most = max(most, depth)
		} else if token.Kind == lex.Sign && strings.Contains(")]}", token.Text) {
			depth--
		}
	}
	return len(tokens), most
}

func random(r *rand.Rand, deep int) syntax.Node {
	kind := 1 + r.IntN(7)
	if deep == 0 {
		kind = 1 + r.IntN(3)
	}
	count := 1
	switch kind {
	case syntax.Ref:
		return ref([]string{"a", "b-1", "Z"}[r.IntN(3)])
	case syntax.Lit:
		return lit([]string{"x", "'", "\n\"", "(", "|"}[r.IntN(5)])
	case syntax.Seq:
		count = []int{0, 2, 3}[r.IntN(3)]
		if deep == 0 {
			count = 0
		}
	case syntax.Alt:
		count = 2 + r.IntN(2)
	}
	n := syntax.Node{Kind: kind}
	for range count {
		n.Kids = append(n.Kids, random(r, deep-1))
	}
	return n
}

// TestReadAgain: what is written of a grammar is read as that grammar.
func TestReadAgain(t *testing.T) {
	r := rand.New(rand.NewPCG(7, 8))
	for range 5000 {
		g := grammar("a", syntax.Rule{Name: []string{"a", "b"}[r.IntN(2)], Body: random(r, r.IntN(6))}, syntax.Rule{Name: "c", Body: random(r, 2)})
		s, err := format.Text(g)
		if err != api.OK {
			t.Fatal(g, err)
		}
		if again, fault := syntax.Parse(s); fault.Code != api.OK || !syntax.Same(g, again) {
			t.Fatal(s, fault)
		}
		body := g.Rules[0].Body
		if got := format.Body(body); got != slow(body, "") || !strings.Contains(s, ": "+got+";\n") {
			t.Fatal(got, slow(body, ""))
		}
		l, err := format.Listing(g)
		if err != api.OK {
			t.Fatal(err)
		}
		slices.Reverse(l)
		rows := []syntax.Node{g.Rules[1].Body}
		if rows[0].Kind == syntax.Alt {
			rows = rows[0].Kids
		}
		for k, row := range rows {
			if got := l[len(rows)-1-k]; got != []string{"c: ", " | "}[min(k, 1)]+slow(row, "row") {
				t.Fatalf("%q", got)
			}
		}
	}
}

func scribble(r *rand.Rand, b *strings.Builder, deep int) {
	for k := range 1 + r.IntN(3) {
		if k > 0 {
			b.WriteString(" | ")
		}
		for range r.IntN(4) {
			if at := r.IntN(5); deep > 0 && at < 3 {
				b.WriteString("([{"[at : at+1])
				scribble(r, b, deep-1)
				b.WriteString(")]}"[at : at+1])
			} else {
				b.WriteString([]string{"a ", `"x"`, "# note\n b"}[r.IntN(3)])
			}
			b.WriteString([]string{"", "*", "+", "?"}[r.IntN(4)])
		}
	}
}

// TestWrittenAgain: what is written of a text that was read is no longer in tokens and no deeper, and is itself when it is read and written.
func TestWrittenAgain(t *testing.T) {
	r := rand.New(rand.NewPCG(9, 10))
	for range 5000 {
		var b strings.Builder
		b.WriteString([]string{"", "%a;", "%b;"}[r.IntN(3)] + "a:")
		scribble(r, &b, r.IntN(7))
		b.WriteString(";")
		g, fault := syntax.Parse(b.String())
		if fault.Code != api.OK {
			t.Fatal(b.String(), fault)
		}
		s, err := format.Text(g)
		if err != api.OK {
			t.Fatal(err)
		}
		tokens, depth := tokensAndDepth(t, b.String())
		if newTokens, newDepth := tokensAndDepth(t, s); newTokens > tokens || newDepth > depth {
			t.Fatalf("%s\n%s", b.String(), s)
		}
		again, fault := syntax.Parse(s)
		if twice, err := format.Text(again); fault.Code != api.OK || err != api.OK || twice != s || !syntax.Same(g, again) {
			t.Fatalf("%s\n%s", s, twice)
		}
	}
}

// TestDeepest: as many brackets in one another as may be.
func TestDeepest(t *testing.T) {
	n := seq(ref("a"), ref("b"))
	for k := range api.MaxDepth {
		n = around([]int{syntax.Opt, syntax.Star, syntax.Plus}[k%3], seq(n, ref("a")))
	}
	s, err := format.Text(grammar("a", syntax.Rule{Name: "a", Body: n}))
	g, fault := syntax.Parse(s)
	if err != api.OK || fault.Code != api.ErrDeep {
		t.Error(s, err, fault)
	}
	s, _ = format.Text(grammar("a", syntax.Rule{Name: "a", Body: n.Kids[0].Kids[0]}))
	if g, fault = syntax.Parse(s); fault.Code != api.OK || !syntax.SameNode(g.Rules[0].Body, n.Kids[0].Kids[0]) {
		t.Error(s, fault)
	}
}
