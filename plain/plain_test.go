package plain_test

import (
	"math"
	"reflect"
	"slices"
	"strconv"
	"strings"
	"testing"

	"primer/api"
	"primer/plain"
	"primer/syntax"
)

func parse(t *testing.T, text string) syntax.Grammar {
	t.Helper()
	g, fault := syntax.Parse(text)
	if fault.Code != api.OK {
		t.Fatal(text, fault)
	}
	return g
}

func desugar(t *testing.T, text string) plain.Grammar {
	t.Helper()
	p, err := plain.Desugar(parse(t, text))
	if err != api.OK || !plain.Sound(p) {
		t.Fatal(text, p, err)
	}
	return p
}

func refused(t *testing.T, what string, g syntax.Grammar, want api.Errno) {
	t.Helper()
	if p, err := plain.Desugar(g); err != want || !reflect.DeepEqual(p, plain.Grammar{}) {
		t.Errorf("%.60s: %v %d, not %d", what, p, err, want)
	}
}

func TestDesugar(t *testing.T) {
	p := desugar(t, "%b; a: 'x'* b?; b: a|'y';")
	want := plain.Grammar{Start: 1, Rules: 2, Names: []string{"a", "b", "a.1", "a.2"}, Terms: []string{"x", "y"}, Prods: []plain.Prod{
		{0, []int{2, 3}}, {1, []int{0}}, {1, []int{-2}}, {2, nil}, {2, []int{-1, 2}}, {3, []int{1}}, {3, nil},
	}}
	if !same(p, want) {
		t.Error(p)
	}
	p = desugar(t, "a:;")
	if !same(p, plain.Grammar{Rules: 1, Names: []string{"a"}, Prods: []plain.Prod{{0, nil}}}) {
		t.Error(p)
	}
	p = desugar(t, "a: 'z' 'x' 'y'|\"x\"; b: \"b\" 'z' b;")
	if p.Start != 0 || p.Rules != 2 || !slices.Equal(p.Names, []string{"a", "b"}) || !slices.Equal(p.Terms, []string{"z", "x", "y", "b"}) {
		t.Error(p)
	}
}

func same(a, b plain.Grammar) bool {
	prod := func(x, y plain.Prod) bool { return x.Left == y.Left && slices.Equal(x.Right, y.Right) }
	return a.Start == b.Start && a.Rules == b.Rules && slices.Equal(a.Names, b.Names) && slices.Equal(a.Terms, b.Terms) && slices.EqualFunc(a.Prods, b.Prods, prod)
}

func TestLines(t *testing.T) {
	for text, want := range map[string]string{
		"a: 'x'* b?; b: a|'y';": "a -> a.1 a.2; b -> a; b -> 'y'; a.1 ->; a.1 -> 'x' a.1; a.2 -> b; a.2 ->",
		"a:;":                   "a ->",
		"a:|;":                  "a ->; a ->",
		"a:a;":                  "a -> a",
		"a:a|'a'|a 'a'|;":       "a -> a; a -> 'a'; a -> a 'a'; a ->",
		`a:"'" "\"\x00" '\'"';`: `a -> "'" '"\x00' '\'"'`,
		// the whole body of a rule
		"a:'x'?;":     "a -> a.1; a.1 -> 'x'; a.1 ->",
		"a:'x'*;":     "a -> a.1; a.1 ->; a.1 -> 'x' a.1",
		"a:'x'+;":     "a -> a.1; a.1 -> 'x'; a.1 -> 'x' a.1",
		"a:('x'|a);":  "a -> 'x'; a -> a",
		"a:('x' a);":  "a -> 'x' a",
		"a:('x'|a)|;": "a -> a.1; a ->; a.1 -> 'x'; a.1 -> a",
		// what is around rows
		"a:['x' a|()|a];":  "a -> a.1; a.1 -> 'x' a; a.1 ->; a.1 -> a; a.1 ->",
		"a:{'x' a|()|a};":  "a -> a.1; a.1 ->; a.1 -> 'x' a a.1; a.1 -> a.1; a.1 -> a a.1",
		"a:('x' a||a)+;":   "a -> a.1; a.1 -> 'x' a; a.1 -> 'x' a a.1; a.1 ->; a.1 -> a.1; a.1 -> a; a.1 -> a a.1",
		"a:[];":            "a -> a.1; a.1 ->; a.1 ->",
		"a:{};":            "a -> a.1; a.1 ->; a.1 -> a.1",
		"a:()+;":           "a -> a.1; a.1 ->; a.1 -> a.1",
		"a:()();":          "a -> a.1 a.2; a.1 ->; a.2 ->",
		"a:('x' a) 'y';":   "a -> a.1 'y'; a.1 -> 'x' a",
		"a:('x'|()) 'y';":  "a -> a.1 'y'; a.1 -> 'x'; a.1 ->",
		"a:(('x'|a)|a)+;":  "a -> a.1; a.1 -> a.2; a.1 -> a.2 a.1; a.1 -> a; a.1 -> a a.1; a.2 -> 'x'; a.2 -> a",
		"a:[['x']];":       "a -> a.1; a.1 -> a.2; a.1 ->; a.2 -> 'x'; a.2 ->",
		"a:{{'x'}};":       "a -> a.1; a.1 ->; a.1 -> a.2 a.1; a.2 ->; a.2 -> 'x' a.2",
		"a:('x'+)+;":       "a -> a.1; a.1 -> a.2; a.1 -> a.2 a.1; a.2 -> 'x'; a.2 -> 'x' a.2",
		"a:['x' ('y' a)];": "a -> a.1; a.1 -> 'x' a.2; a.1 ->; a.2 -> 'y' a",
		// the numbers of new ones: by rising nonterminals, of each its items from the left, counted for each rule
		"a:('x'?)* b?; b:a*|'y'+;":    "a -> a.1 a.2; b -> b.1; b -> b.2; a.1 ->; a.1 -> a.3 a.1; a.2 -> b; a.2 ->; b.1 ->; b.1 -> a b.1; b.2 -> 'y'; b.2 -> 'y' b.2; a.3 -> 'x'; a.3 ->",
		"%b;a:b*;b:{[a] [b]};":        "a -> a.1; b -> b.1; a.1 ->; a.1 -> b a.1; b.1 ->; b.1 -> b.2 b.3 b.1; b.2 -> a; b.2 ->; b.3 -> b; b.3 ->",
		"a:'x'? 'x'? 'x'?;":           "a -> a.1 a.2 a.3; a.1 -> 'x'; a.1 ->; a.2 -> 'x'; a.2 ->; a.3 -> 'x'; a.3 ->",
		"a:(['x'] a (a|'y'))+ ['z'];": "a -> a.1 a.2; a.1 -> a.3 a a.4; a.1 -> a.3 a a.4 a.1; a.2 -> 'z'; a.2 ->; a.3 -> 'x'; a.3 ->; a.4 -> a; a.4 -> 'y'",
	} {
		p := desugar(t, text)
		lines := strings.Split(want, "; ")
		if got := plain.Lines(p); !slices.Equal(got, lines) || len(got) != len(p.Prods) {
			t.Errorf("%s\n%q, not\n%q", text, got, lines)
		}
	}
}

func TestLinesOfNone(t *testing.T) {
	p := plain.Grammar{Names: []string{"a"}}
	if got := plain.Lines(p); len(got) != 0 || !plain.Sound(p) {
		t.Error(got)
	}
	p.Prods = []plain.Prod{{0, []int{0, 1}}}
	if got := plain.Lines(p); len(got) != 0 {
		t.Error(got)
	}
	p = plain.Grammar{Names: []string{"\xff a", "b"}, Terms: []string{"\n"}, Prods: []plain.Prod{{1, []int{-1, 0, 1, -1}}}}
	if got := plain.Lines(p); !slices.Equal(got, []string{"b -> '\\n' \xff a b '\\n'"}) {
		t.Errorf("%q", got)
	}
	if got := plain.Lines(plain.Grammar{}); len(got) != 0 {
		t.Error(got)
	}
}

func TestDesugarRefuses(t *testing.T) {
	for text, want := range map[string]api.Errno{
		"a:b;":          api.ErrNone,
		"%b;a:;":        api.ErrStart,
		"a:;a:;":        api.ErrExists,
		"%b;a:;a:c;":    api.ErrExists,
		"%b;a:c;a:;":    api.ErrNone,
		"a:[(b|a)*];":   api.ErrNone,
		"%A;a:A;A:;B:;": api.OK,
	} {
		if want == api.OK {
			desugar(t, text)
			continue
		}
		refused(t, text, parse(t, text), want)
	}
	many := strings.Repeat("|'x'", api.MaxProds)
	refused(t, "a problem ahead of too much", parse(t, "a:"+many+"|b;"), api.ErrNone)
	a := syntax.Node{Kind: syntax.Ref, Text: "a"}
	for what, g := range map[string]syntax.Grammar{
		"nothing":       {},
		"no rules":      {Start: "a"},
		"no start":      {Rules: []syntax.Rule{{Name: "a", Body: a}}},
		"no good name":  {Start: "a", Rules: []syntax.Rule{{Name: "a", Body: a}, {Name: "a.1", Body: a}}},
		"no kind":       {Start: "a", Rules: []syntax.Rule{{Name: "a"}}},
		"a Seq of one":  {Start: "a", Rules: []syntax.Rule{{Name: "a", Body: syntax.Node{Kind: syntax.Seq, Kids: []syntax.Node{a}}}}},
		"an Opt of two": {Start: "a", Rules: []syntax.Rule{{Name: "a", Body: syntax.Node{Kind: syntax.Opt, Kids: []syntax.Node{a, a}}}}},
		"a Star of none, and a problem ahead": {Start: "b", Rules: []syntax.Rule{{Name: "a", Body: a}, {Name: "a", Body: a},
			{Name: "c", Body: syntax.Node{Kind: syntax.Star}}}},
		"a long literal": {Start: "a", Rules: []syntax.Rule{{Name: "a", Body: syntax.Node{Kind: syntax.Lit, Text: strings.Repeat("x", api.MaxLiteral+1)}}}},
	} {
		refused(t, what, g, api.ErrArg)
	}
}

// TestQuotas: as many as may be, and one more.
func TestQuotas(t *testing.T) {
	atoms := func(n int) string { return strings.Repeat("'x' ", n) }
	for text, most := range map[string]int{
		"a:@;": api.MaxSide, "a:(@|) 'x';": api.MaxSide, "a:[@];": api.MaxSide, "a:{@};": api.MaxSide - 1, "a:(@)+;": api.MaxSide - 1,
		"a:'x'|@;": api.MaxSide, "a:{'x'|@};": api.MaxSide - 1, "a:['x'|@];": api.MaxSide, "a:['x' [@]];": api.MaxSide,
	} {
		p := desugar(t, strings.ReplaceAll(text, "@", atoms(most)))
		wide := func(prod plain.Prod) bool { return len(prod.Right) == api.MaxSide }
		if !slices.ContainsFunc(p.Prods, wide) {
			t.Error(text)
		}
		refused(t, text, parse(t, strings.ReplaceAll(text, "@", atoms(most+1))), api.ErrQuota)
		refused(t, text, parse(t, strings.ReplaceAll(text, "@", atoms(2000))), api.ErrQuota)
	}
	for text, most := range map[string]int{
		"a:'x'@;": api.MaxProds - 1, "a:'x';b:a@;": api.MaxProds - 2, "a:['x'@];": api.MaxProds - 3, "a:{'x'@};": api.MaxProds - 3,
		"a:('x'@) a;": api.MaxProds - 2, "a:('x'@)+ a?|;": (api.MaxProds-4)/2 - 1, "b:a|;a:'x'@;": api.MaxProds - 3,
	} {
		p := desugar(t, strings.ReplaceAll(text, "@", strings.Repeat("|'x'", most)))
		if got := len(p.Prods); got != api.MaxProds {
			t.Error(text, got)
		}
		refused(t, text, parse(t, strings.ReplaceAll(text, "@", strings.Repeat("|'x'", most+1))), api.ErrQuota)
		refused(t, text, parse(t, strings.ReplaceAll(text, "@", strings.Repeat("|'x'", 2000))), api.ErrQuota)
	}
	// the new ones' productions alone are too many
	row := strings.Repeat("()", 15)
	most := "a:" + row + strings.Repeat("|"+row, 15)
	if p := desugar(t, most+";"); len(p.Prods) != api.MaxProds || len(p.Names) != 1+15*16 || p.Names[15*16] != "a.240" {
		t.Error(p)
	}
	refused(t, "many new ones", parse(t, most+"|;"), api.ErrQuota)
}

func terms(n int) string {
	var b strings.Builder
	for k := range n {
		if k%api.MaxSide == 0 && k > 0 {
			b.WriteString("|")
		}
		b.WriteString("'" + strconv.Itoa(k) + "'")
	}
	return b.String()
}

func TestQuotaOfTerminals(t *testing.T) {
	p := desugar(t, "a:"+terms(api.MaxProds)+";")
	if len(p.Terms) != api.MaxProds || p.Terms[api.MaxProds-1] != strconv.Itoa(api.MaxProds-1) || len(p.Prods) != api.MaxProds/api.MaxSide {
		t.Error(p)
	}
	refused(t, "one more", parse(t, "a:"+terms(api.MaxProds+1)+";"), api.ErrQuota)
	refused(t, "many more", parse(t, "a:"+terms(4*api.MaxProds)+";"), api.ErrQuota)
	many := make([]syntax.Rule, api.MaxProds)
	for k := range many {
		many[k] = syntax.Rule{Name: "r" + strconv.Itoa(k), Body: syntax.Node{Kind: syntax.Lit, Text: "x" + strconv.Itoa(k)}}
	}
	p, err := plain.Desugar(syntax.Grammar{Start: "r9", Rules: many})
	if err != api.OK || p.Start != 9 || p.Rules != api.MaxProds || len(p.Names) != api.MaxProds || len(p.Terms) != api.MaxProds || !plain.Sound(p) {
		t.Error(p, err)
	}
	many = append(many, syntax.Rule{Name: "more", Body: syntax.Node{Kind: syntax.Lit, Text: "x0"}})
	refused(t, "a rule more", syntax.Grammar{Start: "r9", Rules: many}, api.ErrQuota)
}

func TestWord(t *testing.T) {
	p := plain.Grammar{Terms: []string{"x", "y", "xy", "y", ""}}
	for _, c := range []struct {
		texts []string
		word  []int
		ok    bool
	}{
		{nil, nil, true}, {[]string{"x"}, []int{0}, true}, {[]string{"xy", "y", "x", "y"}, []int{2, 1, 0, 1}, true},
		{[]string{"z"}, nil, false}, {[]string{"x", "X"}, nil, false}, {[]string{"xyx", "x"}, nil, false}, {[]string{"x", "", "x"}, []int{0, 4, 0}, true},
	} {
		if word, ok := plain.Word(p, c.texts); !slices.Equal(word, c.word) || ok != c.ok {
			t.Errorf("%q: %v %v", c.texts, word, ok)
		}
	}
	if word, ok := plain.Word(plain.Grammar{}, nil); len(word) != 0 || !ok {
		t.Error(word, ok)
	}
	if word, ok := plain.Word(plain.Grammar{Names: []string{"x"}}, []string{"x"}); len(word) != 0 || ok {
		t.Error(word, ok)
	}
}

func TestTexts(t *testing.T) {
	p := plain.Grammar{Terms: []string{"x", "y", ""}}
	for _, c := range []struct {
		word  []int
		texts []string
	}{
		{nil, nil}, {[]int{0}, []string{"x"}}, {[]int{1, 0, 1, 2}, []string{"y", "x", "y", ""}},
		{[]int{-1, 0, 3, 1, math.MaxInt, math.MinInt}, []string{"x", "y"}}, {[]int{3}, nil},
	} {
		if texts := plain.Texts(p, c.word); !slices.Equal(texts, c.texts) {
			t.Errorf("%v: %q", c.word, texts)
		}
	}
	if texts := plain.Texts(plain.Grammar{}, []int{0, -1}); len(texts) != 0 {
		t.Error(texts)
	}
}

// TestNewMemory: an answer shares its lists with nobody, nor two lists of it with one another.
func TestNewMemory(t *testing.T) {
	text := "a:('x' a [a])+ ('y' a|'z')*|{a 'x'};"
	g, kept := parse(t, text), parse(t, text)
	want, _ := plain.Desugar(g)
	p, _ := plain.Desugar(g)
	for k := range p.Prods {
		p.Prods[k].Right = append(p.Prods[k].Right[:len(p.Prods[k].Right):cap(p.Prods[k].Right)], -7)
		if !slices.EqualFunc(p.Prods[k+1:], want.Prods[k+1:], func(a, b plain.Prod) bool { return slices.Equal(a.Right, b.Right) }) {
			t.Fatal("shared behind", k)
		}
		for at := range p.Prods[k].Right {
			p.Prods[k].Right[at] = 99
		}
	}
	p.Names[0], p.Terms[0] = "spoilt", "spoilt"
	if again, _ := plain.Desugar(g); !same(again, want) || !syntax.Same(g, kept) {
		t.Error("shared")
	}
	texts := []string{"x", "y"}
	word, _ := plain.Word(want, texts)
	word[0] = 9
	if back := plain.Texts(want, []int{0, 1, 2}); !slices.Equal(back, []string{"x", "y", "z"}) || !slices.Equal(texts, back[:2]) {
		t.Error(back)
	}
	back := plain.Texts(want, []int{0, 1})
	back[0] = "spoilt"
	if want.Terms[0] != "x" {
		t.Error("shared terms")
	}
}
