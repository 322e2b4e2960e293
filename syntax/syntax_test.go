package syntax_test

import (
	"fmt"
	"slices"
	"strings"
	"testing"

	"primer/api"
	"primer/lex"
	"primer/syntax"
)

func ref(name string) syntax.Node         { return syntax.Node{Kind: syntax.Ref, Text: name} }
func lit(text string) syntax.Node         { return syntax.Node{Kind: syntax.Lit, Text: text} }
func seq(kids ...syntax.Node) syntax.Node { return syntax.Node{Kind: syntax.Seq, Kids: kids} }
func alt(kids ...syntax.Node) syntax.Node { return syntax.Node{Kind: syntax.Alt, Kids: kids} }
func opt(kid syntax.Node) syntax.Node     { return syntax.Node{Kind: syntax.Opt, Kids: []syntax.Node{kid}} }
func star(kid syntax.Node) syntax.Node {
	return syntax.Node{Kind: syntax.Star, Kids: []syntax.Node{kid}}
}
func plus(kid syntax.Node) syntax.Node {
	return syntax.Node{Kind: syntax.Plus, Kids: []syntax.Node{kid}}
}
func rule(n string, b syntax.Node) syntax.Rule { return syntax.Rule{Name: n, Body: b} }

func grammar(start string, rules ...syntax.Rule) syntax.Grammar {
	return syntax.Grammar{Start: start, Rules: rules}
}

func shown(g syntax.Grammar) string { return fmt.Sprintf("%q %+v", g.Start, g.Rules) }

// equal is Same, told another way.
func equal(a, b syntax.Grammar) bool { return shown(a) == shown(b) }

func TestKinds(t *testing.T) {
	got := []int{syntax.Ref, syntax.Lit, syntax.Seq, syntax.Alt, syntax.Opt, syntax.Star, syntax.Plus}
	if !slices.Equal(got, []int{1, 2, 3, 4, 5, 6, 7}) {
		t.Error(got)
	}
}

func TestBodies(t *testing.T) {
	a, b, x := ref("a"), ref("b"), lit("x")
	for text, want := range map[string]syntax.Node{
		"":                 seq(),
		"a":                a,
		"'x'":              x,
		`"\x3a"`:           lit(":"),
		"'x' b?":           seq(x, opt(b)),
		"|":                alt(seq(), seq()),
		"a|":               alt(a, seq()),
		"|a b|'x'":         alt(seq(), seq(a, b), x),
		"()":               seq(),
		"(a)":              a,
		"((a b))":          seq(a, b),
		"(a b) 'x'":        seq(seq(a, b), x),
		"() a":             seq(seq(), a),
		"(a|b)":            alt(a, b),
		"(a|b)|'x'":        alt(alt(a, b), x),
		"(a|b) 'x'":        seq(alt(a, b), x),
		"[]":               opt(seq()),
		"[a]":              opt(a),
		"[a|b]":            opt(alt(a, b)),
		"{a b}":            star(seq(a, b)),
		"{|a}":             star(alt(seq(), a)),
		"a*":               star(a),
		"a+":               plus(a),
		"'x'?":             opt(x),
		"()*":              star(seq()),
		"(a+)+":            plus(plus(a)),
		"[a]?":             opt(opt(a)),
		"{a}+":             plus(star(a)),
		"[a]*":             star(opt(a)),
		"a*b+ 'x'?a":       seq(star(a), plus(b), opt(x), a),
		"{[(a|b)?]+}* 'x'": seq(star(star(plus(opt(opt(alt(a, b)))))), x),
	} {
		g, fault := syntax.Parse("r:" + text + ";")
		if fault != (lex.Fault{}) || !equal(g, grammar("r", rule("r", want))) || !syntax.Proper(g) {
			t.Errorf("%s: %v %v", text, shown(g), fault)
		}
	}
}

func TestGrammars(t *testing.T) {
	a, x := rule("a", ref("b")), rule("b", lit("x"))
	for text, want := range map[string]syntax.Grammar{
		"a:b;b:'x';":                   grammar("a", a, x),
		"%b;a:b;b:'x';":                grammar("b", a, x),
		"%a;a:b;":                      grammar("a", a),
		"% none ; a : b ; # a note":    grammar("none", a),
		"a:b;a:b;b:'x';a:b;":           grammar("a", a, a, x, a),
		"\n# a note\n a:b\t;b:\r'x';#": grammar("a", a, x),
	} {
		g, fault := syntax.Parse(text)
		if fault != (lex.Fault{}) || !equal(g, want) || !syntax.Same(g, want) {
			t.Errorf("%s: %v %v", text, shown(g), fault)
		}
	}
}

func TestFaults(t *testing.T) {
	for text, want := range map[string]lex.Fault{
		"":               {Line: 1, Col: 1, Code: api.ErrForm},
		" # a note\n ":   {Line: 2, Col: 2, Code: api.ErrForm},
		"%":              {Line: 1, Col: 2, Code: api.ErrForm},
		"%a":             {Line: 1, Col: 3, Code: api.ErrForm},
		"%a;":            {Line: 1, Col: 4, Code: api.ErrForm},
		"%'a';":          {Line: 1, Col: 2, Code: api.ErrForm},
		"%a:b;":          {Line: 1, Col: 3, Code: api.ErrForm},
		"%a;%a;":         {Line: 1, Col: 4, Code: api.ErrForm},
		"a:;%a;":         {Line: 1, Col: 4, Code: api.ErrForm},
		"a":              {Line: 1, Col: 2, Code: api.ErrForm},
		"a b":            {Line: 1, Col: 3, Code: api.ErrForm},
		"a ':' b;":       {Line: 1, Col: 3, Code: api.ErrForm},
		"'a':b;":         {Line: 1, Col: 1, Code: api.ErrForm},
		":b;":            {Line: 1, Col: 1, Code: api.ErrForm},
		"a:b":            {Line: 1, Col: 4, Code: api.ErrForm},
		"a:b ';'":        {Line: 1, Col: 8, Code: api.ErrForm},
		"a:b;;":          {Line: 1, Col: 5, Code: api.ErrForm},
		"a:b;c":          {Line: 1, Col: 6, Code: api.ErrForm},
		"a:b:c;":         {Line: 1, Col: 4, Code: api.ErrForm},
		"a:%;":           {Line: 1, Col: 3, Code: api.ErrForm},
		"a:*;":           {Line: 1, Col: 3, Code: api.ErrForm},
		"a:b|?;":         {Line: 1, Col: 5, Code: api.ErrForm},
		"a:b**;":         {Line: 1, Col: 5, Code: api.ErrForm},
		"a:b+?;":         {Line: 1, Col: 5, Code: api.ErrForm},
		"a:[+];":         {Line: 1, Col: 4, Code: api.ErrForm},
		"a:(b];":         {Line: 1, Col: 5, Code: api.ErrForm},
		"a:[b};":         {Line: 1, Col: 5, Code: api.ErrForm},
		"a:{b);":         {Line: 1, Col: 5, Code: api.ErrForm},
		"a:(b ')';":      {Line: 1, Col: 9, Code: api.ErrForm},
		"a:b);":          {Line: 1, Col: 4, Code: api.ErrForm},
		"a:\n (b;":       {Line: 2, Col: 4, Code: api.ErrForm},
		"a:(b":           {Line: 1, Col: 5, Code: api.ErrForm},
		"a:)":            {Line: 1, Col: 3, Code: api.ErrForm},
		": !":            {Line: 1, Col: 3, Code: api.ErrForm},
		":\n\n'":         {Line: 3, Col: 2, Code: api.ErrForm},
		": " + long("a"): {Line: 1, Col: 3, Code: api.ErrLong},
	} {
		g, fault := syntax.Parse(text)
		if fault != want || !equal(g, syntax.Grammar{}) {
			t.Errorf("%q: %v %v", text, shown(g), fault)
		}
	}
	if g, fault := syntax.Parse("a:;" + strings.Repeat(" ", api.MaxText)); fault != (lex.Fault{Code: api.ErrLong}) || !equal(g, syntax.Grammar{}) {
		t.Error(fault)
	}
}

func long(s string) string { return strings.Repeat(s, api.MaxName+1) }

func faultOf(t *testing.T, what, text string, want lex.Fault) {
	t.Helper()
	g, fault := syntax.Parse(text)
	if fault != want || (fault.Code == api.OK) == equal(g, syntax.Grammar{}) {
		t.Errorf("%s: %v, not %v", what, fault, want)
	}
}

func TestTooManyTokens(t *testing.T) {
	most := "a:" + strings.Repeat("'x'", api.MaxTokens-3) // with room for the last sign
	col := len(most) + 1
	faultOf(t, "as many as may be", most+";", lex.Fault{})
	faultOf(t, "as many as may be, and a note", most+"; #;", lex.Fault{})
	faultOf(t, "one more that can go on", most+"b;", lex.Fault{Line: 1, Col: col + 1, Code: api.ErrLong})
	faultOf(t, "one more that can't go on", most+";;", lex.Fault{Line: 1, Col: col + 1, Code: api.ErrLong})
	faultOf(t, "one more that begins a rule", most+";b", lex.Fault{Line: 1, Col: col + 1, Code: api.ErrLong})
	faultOf(t, "many more", most+";b:;:", lex.Fault{Line: 1, Col: col + 1, Code: api.ErrLong})
	faultOf(t, "as many, but no end", most+"b", lex.Fault{Line: 1, Col: col + 1, Code: api.ErrForm})
	faultOf(t, "wrong ahead", most+":;", lex.Fault{Line: 1, Col: col, Code: api.ErrForm})
	faultOf(t, "a wrong byte behind", most+"b; !", lex.Fault{Line: 1, Col: col + 3, Code: api.ErrForm})
}

func TestTooManyRules(t *testing.T) {
	most := strings.Repeat("a:;", api.MaxRules)
	col := len(most) + 1
	faultOf(t, "as many as may be", most, lex.Fault{})
	faultOf(t, "with a start", "%a;"+most, lex.Fault{})
	faultOf(t, "one more", most+"a:;", lex.Fault{Line: 1, Col: col, Code: api.ErrLong})
	faultOf(t, "one more, with a start", "%a;"+most+"a:;", lex.Fault{Line: 1, Col: col + 3, Code: api.ErrLong})
	faultOf(t, "one more that isn't ended", most+"a", lex.Fault{Line: 1, Col: col, Code: api.ErrLong})
	faultOf(t, "no rule behind", most+"'a'", lex.Fault{Line: 1, Col: col, Code: api.ErrForm})
	faultOf(t, "a fault in the last", most[:len(most)-1]+"a:;", lex.Fault{Line: 1, Col: col, Code: api.ErrForm})
}

func TestTooDeep(t *testing.T) {
	for _, pair := range []string{"()", "[]", "{}"} {
		open := strings.Repeat(pair[:1], api.MaxDepth)
		shut := strings.Repeat(pair[1:], api.MaxDepth)
		faultOf(t, "as deep as may be", "a:"+open+"b"+shut+";", lex.Fault{})
		faultOf(t, "as deep, one behind the other", "a:"+open+"b"+shut+open+shut+"|"+open+shut+";", lex.Fault{})
		faultOf(t, "closed and opened", "a:"+open+pair[1:]+pair[:1]+shut+";", lex.Fault{})
		for _, inner := range []string{"(", "[", "{"} {
			wrong := lex.Fault{Line: 1, Col: 3 + api.MaxDepth, Code: api.ErrDeep}
			faultOf(t, "deeper", "a:"+open+inner+inner+shut+";", wrong)
			faultOf(t, "deeper, and no more", "a:"+open+inner, wrong)
		}
		faultOf(t, "a fault ahead", "a:"+open[1:]+"*"+open+";", lex.Fault{Line: 1, Col: 2 + api.MaxDepth, Code: api.ErrForm})
	}
}

// TestDeepAndLong: of one token ErrLong comes first, of two the one ahead.
func TestDeepAndLong(t *testing.T) {
	open := strings.Repeat("(", api.MaxDepth)
	items := strings.Repeat("'x'", api.MaxTokens-2-api.MaxDepth)
	col := 3 + len(items) + api.MaxDepth
	faultOf(t, "both", "a:"+items+open+"(;", lex.Fault{Line: 1, Col: col, Code: api.ErrLong})
	faultOf(t, "the deep one ahead", "a:"+items[3:]+open+"((;", lex.Fault{Line: 1, Col: col - 3, Code: api.ErrDeep})
}

func TestLongRules(t *testing.T) {
	items := strings.Repeat("'x'", api.MaxTokens-3*api.MaxRules)
	most := "a:" + items + ";" + strings.Repeat("a:;", api.MaxRules-1)
	col := len(most) + 1
	faultOf(t, "as many of both as may be", most, lex.Fault{})
	faultOf(t, "one more", most+"a:;", lex.Fault{Line: 1, Col: col, Code: api.ErrLong})
}

func TestSame(t *testing.T) {
	one := func() syntax.Grammar {
		return grammar("a", rule("a", alt(seq(ref("b"), lit("x")), opt(ref("a")))), rule("b", seq()))
	}
	if !syntax.Same(one(), one()) || !syntax.Same(syntax.Grammar{}, syntax.Grammar{Rules: []syntax.Rule{}}) {
		t.Error("not the same")
	}
	for k, change := range []func(g *syntax.Grammar){
		func(g *syntax.Grammar) { g.Start = "b" },
		func(g *syntax.Grammar) { g.Rules = g.Rules[:1] },
		func(g *syntax.Grammar) { g.Rules = append(g.Rules, g.Rules[0]) },
		func(g *syntax.Grammar) { slices.Reverse(g.Rules) },
		func(g *syntax.Grammar) { g.Rules[1].Name = "c" },
		func(g *syntax.Grammar) { g.Rules[1].Body.Kind = syntax.Alt },
		func(g *syntax.Grammar) { g.Rules[1].Body.Text = "x" },
		func(g *syntax.Grammar) { g.Rules[0].Body.Kids[0].Kids[1].Text = "y" },
		func(g *syntax.Grammar) { g.Rules[0].Body.Kids[0].Kids[1].Kind = syntax.Ref },
		func(g *syntax.Grammar) { g.Rules[0].Body.Kids[1].Kids = nil },
		func(g *syntax.Grammar) { slices.Reverse(g.Rules[0].Body.Kids) },
		func(g *syntax.Grammar) { g.Rules[0].Body.Kids = append(g.Rules[0].Body.Kids, seq()) },
	} {
		g := one()
		change(&g)
		if syntax.Same(g, one()) || syntax.Same(one(), g) || !syntax.Same(g, g) {
			t.Error(k)
		}
	}
}

func TestSameNode(t *testing.T) {
	empty := syntax.Node{Kind: syntax.Seq, Kids: []syntax.Node{}}
	if !syntax.SameNode(seq(), empty) || !syntax.SameNode(syntax.Node{Kind: -9, Text: "\x00"}, syntax.Node{Kind: -9, Text: "\x00"}) {
		t.Error("not the same")
	}
	nodes := []syntax.Node{{}, {Kind: 99}, ref("a"), lit("a"), ref("b"), seq(), alt(), seq(ref("a")), seq(ref("a"), ref("a")), opt(ref("a")), star(ref("a")), opt(opt(ref("a")))}
	for i, a := range nodes {
		for k, b := range nodes {
			if syntax.SameNode(a, b) != (i == k) {
				t.Error(a, b)
			}
		}
	}
}

func TestProper(t *testing.T) {
	deep := ref("a")
	for range 1 << 14 {
		deep = plus(deep)
	}
	for k, n := range []syntax.Node{
		ref("a"), ref(long("a")[1:]), lit("\x00"), lit(strings.Repeat("'", api.MaxLiteral)), seq(), seq(seq(), seq()),
		alt(seq(), seq()), alt(ref("a"), alt(lit("x"), seq())), opt(seq()), star(opt(ref("a"))), plus(plus(ref("b"))), deep,
		{Kind: syntax.Seq, Kids: []syntax.Node{}}, {Kind: syntax.Ref, Text: "a", Kids: []syntax.Node{}},
	} {
		if !syntax.Proper(grammar("b", rule("a", seq()), rule("a", n))) {
			t.Error("not proper:", k)
		}
	}
	many := make([]syntax.Rule, api.MaxRules+9)
	for k := range many {
		many[k] = rule("a", ref("none"))
	}
	if !syntax.Proper(grammar("a", many...)) {
		t.Error("many rules")
	}
}

func TestImproper(t *testing.T) {
	text := func(n syntax.Node) syntax.Node { n.Text = "a"; return n }
	kids := func(n syntax.Node) syntax.Node { n.Kids = []syntax.Node{ref("a")}; return n }
	a := ref("a")
	for k, n := range []syntax.Node{
		{}, {Kind: -1}, {Kind: 8}, {Kind: 8, Kids: []syntax.Node{a}}, {Kind: 1 << 62, Text: "a"},
		ref(""), ref("1"), ref("a b"), ref(long("a")), kids(a),
		lit(""), lit(strings.Repeat("x", api.MaxLiteral+1)), kids(lit("x")),
		seq(a), text(seq()), text(seq(a, a)), alt(), alt(a), text(alt(a, a)),
		{Kind: syntax.Opt}, {Kind: syntax.Star}, {Kind: syntax.Plus},
		{Kind: syntax.Opt, Kids: []syntax.Node{a, a}}, {Kind: syntax.Star, Kids: []syntax.Node{a, a}}, {Kind: syntax.Plus, Kids: []syntax.Node{a, a}},
		text(opt(a)), text(star(a)), text(plus(a)),
		seq(a, ref("")), alt(seq(), seq(a)), opt(lit("")), star(syntax.Node{}), plus(alt(a)), opt(opt(seq(ref("b"), star(ref("-"))))),
	} {
		if syntax.Proper(grammar("a", rule("a", a), rule("a", n))) {
			t.Error("proper:", k)
		}
	}
	for k, g := range []syntax.Grammar{
		{}, grammar("a"), grammar("", rule("a", a)), grammar("1", rule("a", a)), grammar(long("a"), rule("a", a)),
		grammar("a", rule("", a)), grammar("a", rule("a", a), rule("a%", a)), grammar("a", rule(long("a"), a)),
	} {
		if syntax.Proper(g) {
			t.Error("proper grammar:", k)
		}
	}
}

func TestRefs(t *testing.T) {
	odd := ref("o")
	odd.Kids = []syntax.Node{ref("p")}
	within := lit("x")
	within.Kids = []syntax.Node{ref("q"), {Kind: 77, Kids: []syntax.Node{ref("")}}}
	for k, c := range []struct {
		node syntax.Node
		want []string
	}{
		{syntax.Node{}, nil}, {seq(), nil}, {lit("a"), nil}, {ref("a"), []string{"a"}},
		{seq(ref("b"), lit("x"), opt(alt(ref("a"), ref("b"), star(ref("c")))), plus(ref("a"))), []string{"b", "a", "b", "c", "a"}},
		{alt(odd, within, odd), []string{"o", "q", "", "o"}},
	} {
		if got := syntax.Refs(c.node); !slices.Equal(got, c.want) {
			t.Error(k, got)
		}
	}
}
