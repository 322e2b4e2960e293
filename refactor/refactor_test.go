package refactor_test

import (
	"math"
	"reflect"
	"strconv"
	"strings"
	"testing"

	"primer/api"
	"primer/format"
	"primer/lex"
	"primer/plain"
	"primer/refactor"
	"primer/symbols"
	"primer/syntax"
)

func parse(t *testing.T, text string) syntax.Grammar {
	t.Helper()
	g, fault := syntax.Parse(text)
	if fault.Code != api.OK {
		t.Fatalf("%.200s: %v", text, fault)
	}
	return g
}

// shown: a grammar in one line, or the error.
func shown(g syntax.Grammar, err api.Errno) string {
	if err != api.OK {
		if !reflect.DeepEqual(g, syntax.Grammar{}) {
			return "a grammar beside error " + strconv.Itoa(int(err))
		}
		return "error " + strconv.Itoa(int(err))
	}
	text, err := format.Text(g)
	if err != api.OK || !refactor.Fits(g) {
		return "what doesn't fit"
	}
	return strings.ReplaceAll(strings.TrimSuffix(text, "\n"), "\n", " ")
}

func wrong(err api.Errno) string {
	return "error " + strconv.Itoa(int(err))
}

func ref(name string) syntax.Node { return syntax.Node{Kind: syntax.Ref, Text: name} }
func lit(text string) syntax.Node { return syntax.Node{Kind: syntax.Lit, Text: text} }
func many(kind int, kids ...syntax.Node) syntax.Node {
	return syntax.Node{Kind: kind, Kids: kids}
}

func one(body syntax.Node) syntax.Grammar {
	return syntax.Grammar{Start: "a", Rules: []syntax.Rule{{Name: "a", Body: body}}}
}

// rules: so many, of which each but the last calls the next one; the last one's body is told.
func rules(n int, last string) string {
	var b strings.Builder
	for k := range n - 1 {
		b.WriteString("r" + strconv.Itoa(k) + ":r" + strconv.Itoa(k+1) + ";")
	}
	return b.String() + "r" + strconv.Itoa(n-1) + ":" + last + ";"
}

// nested brackets around an item, as deep as told, none of which is left out in the one form.
func nested(deep int, body string) string {
	return strings.Repeat("'x' (", deep) + "'x' " + body + strings.Repeat(")", deep)
}

// tokens: a rule that has so many beside the end, of rows that aren't wide.
func tokens(n int) string {
	var b strings.Builder
	b.WriteString("a:")
	for k := range n - 3 {
		if k%16 == 15 {
			b.WriteString("|")
		} else {
			b.WriteString("'x' ")
		}
	}
	return b.String() + ";"
}

// long: a rule whose text in one form has so many bytes, a newline behind it too.
func long(bytes int) string {
	const row = 10 * (4*api.MaxLiteral + 3) // of ten literals, with what is between
	literal := "'" + strings.Repeat(`\x00`, api.MaxLiteral) + "'"
	text := "a: "
	for bytes-len(text) > 2*row {
		text += strings.Repeat(literal+" ", 9) + literal + "|"
	}
	for bytes-len(text) > api.MaxLiteral+4 {
		text += "'" + strings.Repeat("x", 11) + "'|"
	}
	return text + "'" + strings.Repeat("x", bytes-len(text)-4) + "';\n"
}

func TestFits(t *testing.T) {
	for text, want := range map[string]bool{
		"a:;":                       true,
		"a: 'x'* b?; b: a|'y';":     true,
		"%b;a:b;b:|'y';":            true,
		"a: () (|) [[]] {()+};":     true,
		"a:b;":                      false,
		"%b;a:;":                    false,
		"a:;a:;":                    false,
		rules(api.MaxRules, ""):     true,
		tokens(api.MaxTokens):       true,
		long(api.MaxText):           true,
		"a:" + nested(16, "") + ";": true,
		"a:" + strings.Repeat("'x' ", api.MaxSide) + ";":                                          true,
		"a:" + strings.Repeat("'x' ", api.MaxSide+1) + ";":                                        false,
		"a:" + strings.Repeat("'x'|", api.MaxProds-1) + ";":                                       true,
		"a:" + strings.Repeat("'x'|", api.MaxProds) + ";":                                         false,
		"a:" + strings.Repeat("'x'|", api.MaxProds) + "b;":                                        false,
		"a:" + strings.Repeat("()", 15) + strings.Repeat("|"+strings.Repeat("()", 15), 15) + ";":  true,
		"a:" + strings.Repeat("()", 15) + strings.Repeat("|"+strings.Repeat("()", 15), 15) + "|;": false,
	} {
		if got := refactor.Fits(parse(t, text)); got != want {
			t.Errorf("%.60s: %v", text, got)
		}
	}
}

// TestFitsNot: grammars that no text is read as.
func TestFitsNot(t *testing.T) {
	x := lit("x")
	deep := many(syntax.Seq, x, x)
	for range api.MaxDepth {
		deep = many(syntax.Seq, x, deep)
	}
	rulesMore := parse(t, rules(api.MaxRules, ""))
	rulesMore.Rules = append(rulesMore.Rules, syntax.Rule{Name: "more", Body: x})
	tokensMore := parse(t, tokens(api.MaxTokens))
	body := tokensMore.Rules[0].Body
	body.Kids[len(body.Kids)-1].Kids = append(body.Kids[len(body.Kids)-1].Kids, x)
	byteMore := parse(t, long(api.MaxText))
	byteMore.Rules[0].Name, byteMore.Start = "ab", "ab"
	if text, err := format.Text(byteMore); err != api.OK || len(text) != api.MaxText+1 {
		t.Error(len(text), err)
	}
	if !refactor.Fits(one(deep)) || !refactor.Fits(one(many(syntax.Alt, deep, deep))) {
		t.Error("as many brackets as may be")
	}
	row := many(syntax.Alt, many(syntax.Seq), many(syntax.Seq))
	for what, g := range map[string]syntax.Grammar{
		"nothing":               {},
		"no rules":              {Start: "a"},
		"no start":              {Rules: one(x).Rules},
		"no good name":          {Start: "a", Rules: append(one(x).Rules, syntax.Rule{Name: "b.1", Body: x})},
		"no kind":               one(syntax.Node{}),
		"a Seq of one":          one(many(syntax.Seq, x)),
		"an empty literal":      one(lit("")),
		"a bracket more":        one(many(syntax.Seq, x, deep)),
		"a bracket more of Opt": one(many(syntax.Opt, many(syntax.Opt, deep))),
		"a rule more":           rulesMore,
		"a token more":          tokensMore,
		"a byte more":           byteMore,
		"many nodes":            one(many(syntax.Alt, row, row, many(syntax.Alt, make([]syntax.Node, 1<<20)...))),
	} {
		if refactor.Fits(g) {
			t.Error(what)
		}
	}
}

func count(n syntax.Node) int {
	sum := 1
	for _, kid := range n.Kids {
		sum += count(kid)
	}
	return sum
}

// TestManyNodes: a grammar that fits may have more nodes than tokens.
func TestManyNodes(t *testing.T) {
	row := strings.Repeat("'x' ", 15)
	text := "a:" + strings.Repeat("[|]"+row+"|", 5) + strings.Repeat("'x' "+row+"|", 235) + "'x' 'x' 'x';"
	tokens, _ := lex.Scan(text)
	g := parse(t, text)
	if nodes := count(g.Rules[0].Body); len(tokens) != api.MaxTokens+1 || nodes != api.MaxTokens+4 || !refactor.Fits(g) {
		t.Error(len(tokens), nodes)
	}
	for _, text := range []string{
		"a:" + strings.Repeat("("+strings.Repeat("|", 15)+")?|", 10) + ";",
		"a:" + strings.Repeat("(|)(|)(|)(|)(|)|", 15) + ";",
		"a:" + strings.Repeat("|", api.MaxProds-1) + ";",
	} {
		if !refactor.Fits(parse(t, text)) {
			t.Error(text)
		}
	}
}

func TestRename(t *testing.T) {
	for _, c := range []struct{ text, old, fresh, want string }{
		{"a: b 'b'; b: a|b+;", "b", "c", "a: c 'b'; c: a|c+;"},
		{"a: b 'b'; b: a|b+;", "a", "c", "c: b 'b'; b: c|b+;"},
		{"%b; a: b; b: (a b)*;", "b", "B-1_x", "%B-1_x; a: B-1_x; B-1_x: {a B-1_x};"},
		{"%b; a: b; b: (a b)*;", "a", "b1", "%b; b1: b; b: {b1 b};"},
		{"a: [{(a|a 'a')+}];", "a", "A", "A: {(A|A 'a')+}?;"},
		{"a:;", "a", strings.Repeat("n", api.MaxName), strings.Repeat("n", api.MaxName) + ": ;"},
		{"a:;b:'x';", "b", "c", "a: ; c: 'x';"},
		{"a: b; b:;", "c", "", wrong(api.ErrNone)},
		{"a: b; b:;", "", "c", wrong(api.ErrNone)},
		{"a: b; b:;", "A", "b", wrong(api.ErrNone)},
		{"a: b; b:;", "a", "", wrong(api.ErrName)},
		{"a: b; b:;", "a", "1a", wrong(api.ErrName)},
		{"a: b; b:;", "a", "a.1", wrong(api.ErrName)},
		{"a: b; b:;", "a", strings.Repeat("n", api.MaxName+1), wrong(api.ErrName)},
		{"a: b; b:;", "a", "b", wrong(api.ErrClash)},
		{"a: b; b:;", "a", "a", wrong(api.ErrClash)},
		{"a: b; b:;", "b", "b", wrong(api.ErrClash)},
	} {
		if got := shown(refactor.Rename(parse(t, c.text), c.old, c.fresh)); got != c.want {
			t.Errorf("%s, %q as %q: %s", c.text, c.old, c.fresh, got)
		}
	}
}

func TestInline(t *testing.T) {
	for _, c := range []struct{ text, name, want string }{
		{"S: a 'x'; a: 'y'|;", "a", "S: ('y'|) 'x';"},
		{"S: a; a: 'y'|;", "a", "S: 'y'|;"},
		{"S: a|a|b; a: 'y'|; b: a;", "a", "S: ('y'|)|('y'|)|b; b: 'y'|;"},
		{"S: a b a; a: 'y' 'z'; b: a?|a*|a+;", "a", "S: ('y' 'z') b ('y' 'z'); b: ['y' 'z']|{'y' 'z'}|('y' 'z')+;"},
		{"S: a b; a: ; b: a?|a*|a+|a;", "a", "S: () b; b: []|{}|()+|;"},
		{"S: a a?; a: 'y'?;", "a", "S: 'y'? ['y']?;"},
		{"S: a a? a* a+; a: b;b:'y'|;", "a", "S: b b? b* b+; b: 'y'|;"},
		{"S: a; a: b 'x'; b: 'y'|'z';", "b", "S: a; a: ('y'|'z') 'x';"},
		{"S: S|'x'; a: S S;", "a", "S: S|'x';"},
		{"%S; a: S S; S: S 'x'|a|;", "a", wrong(api.ErrLoop)},
		{"%S; a: S S; S: 'x'|;", "a", "S: 'x'|;"},
		{"%S; a: 'x'; b: a; S: a;", "a", "%S; b: 'x'; S: 'x';"},
		{"S: a; a: 'x';", "b", wrong(api.ErrNone)},
		{"S: a; a: 'x';", "", wrong(api.ErrNone)},
		{"S: a; a: 'x';", "S", wrong(api.ErrStart)},
		{"S: S;", "S", wrong(api.ErrStart)},
		{"S: a; a: a|;", "a", wrong(api.ErrLoop)},
		{"S: ; a: b; b: [a];", "b", wrong(api.ErrLoop)},
		{"S: a; a: b; b: S;", "b", wrong(api.ErrLoop)},
		{"S: c; a: b; b: a; c: a 'x';", "c", "S: a 'x'; a: b; b: a;"},
	} {
		if got := shown(refactor.Inline(parse(t, c.text), c.name)); got != c.want {
			t.Errorf("%s, %q: %s", c.text, c.name, got)
		}
	}
}

func TestExtract(t *testing.T) {
	const most, least = math.MaxInt, math.MinInt
	text := "a: 'x' b 'y' a|b|(a|b) 'z'; b: ;"
	for _, c := range []struct {
		text, rule   string
		row, from, n int
		name, want   string
	}{
		{text, "a", 0, 0, 1, "c", "a: c b 'y' a|b|(a|b) 'z'; b: ; c: 'x';"},
		{text, "a", 0, 1, 2, "c", "a: 'x' c a|b|(a|b) 'z'; b: ; c: b 'y';"},
		{text, "a", 0, 2, 2, "c", "a: 'x' b c|b|(a|b) 'z'; b: ; c: 'y' a;"},
		{text, "a", 0, 0, 4, "c", "a: c|b|(a|b) 'z'; b: ; c: 'x' b 'y' a;"},
		{text, "a", 1, 0, 1, "c", "a: 'x' b 'y' a|c|(a|b) 'z'; b: ; c: b;"},
		{text, "a", 2, 0, 1, "c", "a: 'x' b 'y' a|b|c 'z'; b: ; c: a|b;"},
		{text, "a", 2, 1, 1, "c", "a: 'x' b 'y' a|b|(a|b) c; b: ; c: 'z';"},
		{text, "a", 2, 0, 2, "C-1", "a: 'x' b 'y' a|b|C-1; b: ; C-1: (a|b) 'z';"},
		{"%b; a: 'x' 'y'; b: a a;", "b", 0, 1, 1, "c", "%b; a: 'x' 'y'; b: a c; c: a;"},
		{"a: 'x' 'y';", "a", 0, 0, 2, "b", "a: b; b: 'x' 'y';"},
		{"a: 'x';", "a", 0, 0, 1, "b", "a: b; b: 'x';"},
		{"a: ['x'|a];", "a", 0, 0, 1, "b", "a: b; b: ['x'|a];"},
		{"a: ('x' a) 'y'|;", "a", 0, 0, 1, "b", "a: b 'y'|; b: 'x' a;"},
		{"a: ('x'|a)|;", "a", 0, 0, 1, "b", "a: b|; b: 'x'|a;"},
		{"a: () () 'x';", "a", 0, 0, 1, "b", "a: b () 'x'; b: ;"},
		{"a: () () 'x';", "a", 0, 0, 2, "b", "a: b 'x'; b: () ();"},
		// no such rule, ahead of all else
		{text, "c", 9, 0, 1, "b", wrong(api.ErrNone)},
		{text, "", 0, 0, 1, "c", wrong(api.ErrNone)},
		// no such row, or items
		{text, "a", 3, 0, 1, "c", wrong(api.ErrArg)},
		{text, "a", -1, 0, 1, "c", wrong(api.ErrArg)},
		{text, "a", most, 0, 1, "c", wrong(api.ErrArg)},
		{text, "a", least, 0, 1, "c", wrong(api.ErrArg)},
		{text, "a", 0, 0, 0, "c", wrong(api.ErrArg)},
		{text, "a", 0, 0, -1, "c", wrong(api.ErrArg)},
		{text, "a", 0, 0, least, "c", wrong(api.ErrArg)},
		{text, "a", 0, -1, 1, "c", wrong(api.ErrArg)},
		{text, "a", 0, -1, 2, "c", wrong(api.ErrArg)},
		{text, "a", 0, least, 1, "c", wrong(api.ErrArg)},
		{text, "a", 0, 0, 5, "c", wrong(api.ErrArg)},
		{text, "a", 0, 4, 1, "c", wrong(api.ErrArg)},
		{text, "a", 0, 3, 2, "c", wrong(api.ErrArg)},
		{text, "a", 0, most, 1, "c", wrong(api.ErrArg)},
		{text, "a", 0, most, most, "c", wrong(api.ErrArg)},
		{text, "a", 0, 1, most, "c", wrong(api.ErrArg)},
		{text, "a", 1, 0, 2, "c", wrong(api.ErrArg)},
		{text, "b", 0, 0, 1, "c", wrong(api.ErrArg)},
		{text, "b", 0, 0, 0, "c", wrong(api.ErrArg)},
		{text, "a", 1, 1, 1, "", wrong(api.ErrArg)},
		{text, "a", 1, 1, 1, "b", wrong(api.ErrArg)},
		// names
		{text, "a", 0, 0, 1, "", wrong(api.ErrName)},
		{text, "a", 0, 0, 1, "c c", wrong(api.ErrName)},
		{text, "a", 0, 0, 1, strings.Repeat("n", api.MaxName+1), wrong(api.ErrName)},
		{text, "a", 0, 0, 1, "a", wrong(api.ErrClash)},
		{text, "a", 0, 0, 1, "b", wrong(api.ErrClash)},
	} {
		if got := shown(refactor.Extract(parse(t, c.text), c.rule, c.row, c.from, c.n, c.name)); got != c.want {
			t.Errorf("%s, %q %d %d %d %q: %s", c.text, c.rule, c.row, c.from, c.n, c.name, got)
		}
	}
}

func TestTrim(t *testing.T) {
	const dead = " d: d; e: d 'x'|e d;"
	for text, want := range map[string]string{
		"S: 'x';":                   "S: 'x';",
		"S: S|;":                    "S: S|;",
		"S: 'x'; a: S;":             "S: 'x';",
		"%b; a: b; b: c; c: b|'x';": "b: c; c: b|'x';",
		"%b; a: 'x'; b: 'y'; c: a;": "b: 'y';",
		// kids of an Alt
		"S: d|'x';":           "S: 'x';",
		"S: 'x'|d|'y'|d d;":   "S: 'x'|'y';",
		"S: (d|'x') 'y';":     "S: 'x' 'y';",
		"S: (d|'x' 'z') 'y';": "S: ('x' 'z') 'y';",
		"S: (d|) 'y';":        "S: () 'y';",
		"S: d|('x'|'y');":     "S: 'x'|'y';",
		"S: d|('x'|'y')|'z';": "S: ('x'|'y')|'z';",
		"S: (d|e)|'x'|'y';":   "S: 'x'|'y';",
		"S: (d|'x')|'y';":     "S: 'x'|'y';",
		"S: (d|e)|('x'|d);":   "S: 'x';",
		"S: [d|'x'|d];":       "S: 'x'?;",
		"S: (d|'x'|d)+;":      "S: 'x'+;",
		"S: {'x'|'y'|d};":     "S: {'x'|'y'};",
		// Opt, Star, Plus, Seq
		"S: d?;":                  "S: ;",
		"S: d*;":                  "S: ;",
		"S: d*|e? 'x';":           "S: |() 'x';",
		"S: d+|'x';":              "S: 'x';",
		"S: [d+]|'x';":            "S: |'x';",
		"S: {d}+|'x';":            "S: ()+|'x';",
		"S: [{d}]|'x';":           "S: []|'x';",
		"S: [d|e]? 'x';":          "S: [] 'x';",
		"S: 'x' d 'y'|'z';":       "S: 'z';",
		"S: 'x' ['y' d] 'z';":     "S: 'x' () 'z';",
		"S: 'x' {['y' d] 'z'};":   "S: 'x' {() 'z'};",
		"S: 'z'|('x' (d|e) 'y');": "S: 'z';",
		// what isn't come to any more
		"S: 'x'|d a; a: 'y';":                   "S: 'x';",
		"S: 'x' [a d]; a: b; b: 'y' S;":         "S: 'x' ();",
		"S: 'x'|a; a: b|d; b: 'y'|e c; c: 'z';": "S: 'x'|a; a: b; b: 'y';",
		"S: a; a: S|b; b: a S|;":                "S: a; a: S|b; b: a S|;",
		// no word
		"S: d;":           wrong(api.ErrStart),
		"S: S;":           wrong(api.ErrStart),
		"S: S 'x'|d|e+;":  wrong(api.ErrStart),
		"%e; S: 'x';":     wrong(api.ErrStart),
		"S: a|d; a: S d;": wrong(api.ErrStart),
	} {
		if got := shown(refactor.Trim(parse(t, text+dead))); got != want {
			t.Errorf("%s: %s, not %s", text, got, want)
		}
	}
}

func TestFlatten(t *testing.T) {
	long := strings.Repeat("n", api.MaxName-2)
	for text, want := range map[string]string{
		"a: 'x'* b?; b: a|'y';": "a: a-1 a-2; b: a|'y'; a-1: |'x' a-1; a-2: b|;",
		"a: ;":                  "a: ;",
		"a: |;":                 "a: |;",
		"a: 'x' a|b; b: ();":    "a: 'x' a|b; b: ;",
		"%b; a: b; b: [a];":     "%b; a: b; b: b-1; b-1: a|;",
		"a: ('x'|a) ('y' a)+;":  "a: a-1 a-2; a-1: 'x'|a; a-2: 'y' a|'y' a a-2;",
		"a: [['x']];":           "a: a-1; a-1: a-2|; a-2: 'x'|;",
		// names that are taken, by a rule or by a new one
		"a: 'x'? 'y'?; a-1: a;":            "a: a-2 a-3; a-1: a; a-2: 'x'|; a-3: 'y'|;",
		"a: 'x'? 'y'?; a-2: a-1; a-1: ;":   "a: a-3 a-4; a-2: a-1; a-1: ; a-3: 'x'|; a-4: 'y'|;",
		"a: 'x'? 'y'?; a-2: a;":            "a: a-1 a-3; a-2: a; a-1: 'x'|; a-3: 'y'|;",
		"a: 'x'?; a-1: 'y'?; a-1-1: 'z'?;": "a: a-2; a-1: a-1-2; a-1-1: a-1-1-1; a-2: 'x'|; a-1-2: 'y'|; a-1-1-1: 'z'|;",
		"a: 'x'?; a-01: 'y'; A-1: ;":       "a: a-1; a-01: 'y'; A-1: ; a-1: 'x'|;",
		long + ": 'x'?;":                   long + ": " + long + "-1; " + long + "-1: 'x'|;",
		long + ": " + strings.Repeat("'x'?", 9) + ";": long + ": " + long + "-1 " + long + "-2 " + long + "-3 " + long + "-4 " + long + "-5 " +
			long + "-6 " + long + "-7 " + long + "-8 " + long + "-9; " + flats(long, 9),
		long + ": " + strings.Repeat("'x'?", 10) + ";": wrong(api.ErrName),
		long + "n: 'x'?;": wrong(api.ErrName),
		long + "n: 'x';":  long + "n: 'x';",
	} {
		if got := shown(refactor.Flatten(parse(t, text))); got != want {
			t.Errorf("%s: %s, not %s", text, got, want)
		}
	}
}

func flats(name string, n int) string {
	var l []string
	for k := range n {
		l = append(l, name+"-"+strconv.Itoa(k+1)+": 'x'|;")
	}
	return strings.Join(l, " ")
}

// changes of which each would do something to a grammar with rules a, the start, and b, if it could.
func changes() map[string]func(g syntax.Grammar) (syntax.Grammar, api.Errno) {
	return map[string]func(g syntax.Grammar) (syntax.Grammar, api.Errno){
		"Rename":  func(g syntax.Grammar) (syntax.Grammar, api.Errno) { return refactor.Rename(g, "b", "new") },
		"Inline":  func(g syntax.Grammar) (syntax.Grammar, api.Errno) { return refactor.Inline(g, "b") },
		"Extract": func(g syntax.Grammar) (syntax.Grammar, api.Errno) { return refactor.Extract(g, "a", 0, 0, 1, "new") },
		"Trim":    refactor.Trim,
		"Flatten": refactor.Flatten,
	}
}

// TestFirstErrors: what isn't proper or sound, ahead of all else.
func TestFirstErrors(t *testing.T) {
	x := lit("x")
	improper := map[string]syntax.Grammar{
		"nothing":                {},
		"no rules":               {Start: "a"},
		"no start":               {Rules: one(x).Rules},
		"a Seq of one":           one(many(syntax.Seq, x)),
		"no kind, and a problem": {Start: "b", Rules: []syntax.Rule{{Name: "a", Body: ref("c")}, {Name: "a"}}},
	}
	for name, change := range changes() {
		for what, g := range improper {
			if got := shown(change(g)); got != wrong(api.ErrArg) {
				t.Error(name, what, got)
			}
		}
		for text, want := range map[string]api.Errno{
			"a: c; b: ;": api.ErrNone, "a: b; a: ; b: ;": api.ErrExists, "%c; a: b; b: ;": api.ErrStart, "%c; a: d; a: ; b: ;": api.ErrNone, "%c; a: ; b: ; b: d;": api.ErrExists,
		} {
			if got := shown(change(parse(t, text))); got != wrong(want) {
				t.Error(name, text, got)
			}
		}
	}
	if got := shown(refactor.Rename(parse(t, "a: b;"), "c", "")); got != wrong(api.ErrNone) {
		t.Error(got)
	}
	if got := shown(refactor.Extract(parse(t, "a: ; a: ;"), "b", -1, 0, 0, "")); got != wrong(api.ErrExists) {
		t.Error(got)
	}
}

// TestLastError: what comes doesn't fit, behind all other errors.
func TestLastError(t *testing.T) {
	full := rules(api.MaxRules, "'x' 'y'?")
	deep := "a: b? " + nested(api.MaxDepth, "b") + "; b: 'x' 'y';"
	wide := "a: " + strings.Repeat("'x' ", api.MaxSide) + "'x'; b: ;"
	for what, c := range map[string]struct{ got, want string }{
		"a rule more":             {shown(refactor.Extract(parse(t, full), "r63", 0, 0, 1, "c")), wrong(api.ErrQuota)},
		"as many rules":           {shown(refactor.Rename(parse(t, "a: 'x';"+rules(api.MaxRules-1, "")), "a", "b"))[:7], "b: 'x';"},
		"a rule more, a clash":    {shown(refactor.Extract(parse(t, full), "r63", 0, 0, 1, "r0")), wrong(api.ErrClash)},
		"a flat rule more":        {shown(refactor.Flatten(parse(t, full))), wrong(api.ErrQuota)},
		"a bracket more":          {shown(refactor.Inline(parse(t, deep), "b")), wrong(api.ErrQuota)},
		"a bracket more, a start": {shown(refactor.Inline(parse(t, deep), "a")), wrong(api.ErrStart)},
		"no bracket more":         {shown(refactor.Inline(parse(t, strings.ReplaceAll(deep, "'x' 'y'", "'y'")), "b"))[:3], "a: "},
		"a bracket for a sign":    {shown(refactor.Trim(parse(t, "a: "+nested(api.MaxDepth, "d?")+"; d: d;"))), wrong(api.ErrQuota)},
		"the bracket that was":    {shown(refactor.Trim(parse(t, "a: "+nested(api.MaxDepth-1, "[d 'x']")+"; d: d;"))), "a: " + nested(api.MaxDepth-1, "()") + ";"},
		"a wide side":             {shown(refactor.Rename(parse(t, wide), "b", "c")), wrong(api.ErrQuota)},
		"a wide side, a clash":    {shown(refactor.Rename(parse(t, wide), "b", "a")), wrong(api.ErrClash)},
		"a side that was wide":    {shown(refactor.Extract(parse(t, wide), "a", 0, 3, 2, "c")), "a: 'x' 'x' 'x' c" + strings.Repeat(" 'x'", 12) + "; b: ; c: 'x' 'x';"},
		"a wide row that is dead": {shown(refactor.Trim(parse(t, "a: 'x'|b "+strings.Repeat("'x' ", api.MaxSide)+"; b: b;"))), wrong(api.ErrQuota)},
		"a wide row, no word":     {shown(refactor.Trim(parse(t, "a: b "+strings.Repeat("'x' ", api.MaxSide)+"; b: b;"))), wrong(api.ErrQuota)},
		"a wide row, a bad name":  {shown(refactor.Flatten(parse(t, strings.Repeat("n", api.MaxName)+": 'x'? "+strings.Repeat("'x' ", api.MaxSide)+";"))), wrong(api.ErrQuota)},
	} {
		if c.got != c.want {
			t.Errorf("%s: %s", what, c.got)
		}
	}
	bad := strings.Replace(full, "r0:", strings.Repeat("n", api.MaxName)+": 'z'?; r0:", 1)
	bad = strings.Replace(bad, "r62:r63;", "", 1)
	bad = strings.Replace(bad, "r61:r62;", "r61:r63;", 1)
	if got := shown(refactor.Flatten(parse(t, bad))); got != wrong(api.ErrName) {
		t.Error("a bad name ahead of too many rules: ", got)
	}
	if got := shown(refactor.Rename(parse(t, long(api.MaxText)), "a", "ab")); got != wrong(api.ErrQuota) {
		t.Errorf("a byte more: %.60s", got)
	}
	if got := shown(refactor.Rename(parse(t, long(api.MaxText)), "a", "b")); !strings.HasPrefix(got, "b: ") {
		t.Errorf("as many bytes: %.60s", got)
	}
	if got := shown(refactor.Rename(parse(t, tokens(api.MaxTokens)), "a", "b")); !strings.HasPrefix(got, "b: ") {
		t.Errorf("as many tokens: %.60s", got)
	}
}

// TestMoreThanATextHas: what a grammar made by hand has more of, a change may take away.
func TestMoreThanATextHas(t *testing.T) {
	g := parse(t, "a: 'x'|d;")
	for k := range api.MaxRules + 10 {
		g.Rules = append(g.Rules, syntax.Rule{Name: "u" + strconv.Itoa(k), Body: ref("a")})
	}
	g.Rules = append(g.Rules, syntax.Rule{Name: "d", Body: ref("d")})
	if refactor.Fits(g) {
		t.Error("too many rules fit")
	}
	if got := shown(refactor.Trim(g)); got != "a: 'x';" {
		t.Error(got)
	}
	for name, change := range map[string]func() (syntax.Grammar, api.Errno){
		"Rename": func() (syntax.Grammar, api.Errno) { return refactor.Rename(g, "a", "b") },
		"Inline": func() (syntax.Grammar, api.Errno) { return refactor.Inline(g, "u1") },
	} {
		if got := shown(change()); got != wrong(api.ErrQuota) {
			t.Error(name, got)
		}
	}
}

// TestTooMuchForRoom: as many bodies as many items each.
func TestTooMuchForRoom(t *testing.T) {
	const size = 200000
	refs, lits := make([]syntax.Node, size), make([]syntax.Node, size)
	for k := range size {
		refs[k], lits[k] = ref("b"), lit("x")
	}
	g := one(many(syntax.Seq, refs...))
	g.Rules = append(g.Rules, syntax.Rule{Name: "b", Body: many(syntax.Alt, lits...)})
	for name, change := range changes() {
		if got := shown(change(g)); got != wrong(api.ErrQuota) {
			t.Error(name, got)
		}
	}
	deep := ref("a")
	for range 1<<16 - 10 {
		deep = many(syntax.Star, deep)
	}
	for name, change := range changes() {
		want := wrong(api.ErrQuota)
		if name == "Rename" || name == "Inline" {
			want = wrong(api.ErrNone)
		}
		if got := shown(change(one(deep))); got != want {
			t.Error(name, got)
		}
	}
}

// TestNewMemory: an answer shares its lists with nobody, nor two lists of it with one another; what is handed in stays, the room behind it too.
func TestNewMemory(t *testing.T) {
	text := "a: b b ('x' b|d)*|[b 'y' b]; b: 'z' (c|'x'+)|'y' c; c: 'z' ['x' 'y']; d: d; e: e?;"
	for name, change := range changes() {
		g := parse(t, text)
		g.Rules = append(g.Rules, syntax.Rule{Name: "room"})[:len(g.Rules)]
		roomy(g.Rules)
		made, err := change(g)
		again, _ := change(g)
		want := shown(again, api.OK)
		if err != api.OK || shown(made, err) != want {
			t.Fatal(name, err)
		}
		for k := range made.Rules {
			spoil(&made.Rules[k].Body)
			made.Rules[k].Name = "spoilt"
			rest := syntax.Grammar{Start: "a", Rules: made.Rules[k+1:]}
			if len(rest.Rules) > 0 && !syntax.Same(rest, syntax.Grammar{Start: "a", Rules: again.Rules[k+1:]}) {
				t.Error(name, "shares with itself")
			}
		}
		if shown(again, api.OK) != want || !syntax.Same(g, parse(t, text)) || g.Rules[:len(g.Rules)+1][len(g.Rules)].Name != "room" {
			t.Error(name, "shares")
		}
		if !hasRoom(g.Rules) {
			t.Error(name, "writes behind a list")
		}
	}
}

// roomy gives each list of kids room behind it, with something in it.
func roomy(rules []syntax.Rule) {
	for k := range rules {
		roomyNode(&rules[k].Body)
	}
}

func roomyNode(n *syntax.Node) {
	for k := range n.Kids {
		roomyNode(&n.Kids[k])
	}
	if len(n.Kids) > 0 {
		n.Kids = append(n.Kids, lit("room"))[:len(n.Kids)]
	}
}

func hasRoom(rules []syntax.Rule) bool {
	for _, r := range rules {
		if !hasRoomNode(r.Body) {
			return false
		}
	}
	return true
}

func hasRoomNode(n syntax.Node) bool {
	for _, kid := range n.Kids {
		if !hasRoomNode(kid) {
			return false
		}
	}
	return len(n.Kids) == 0 || n.Kids[:len(n.Kids)+1][len(n.Kids)].Text == "room"
}

// spoil a node: all of its kids, one after the other, and the room behind them.
func spoil(n *syntax.Node) {
	_ = append(n.Kids, lit("spoilt"))
	for k := range n.Kids {
		rest := syntax.Node{Kids: n.Kids[k+1:]}
		before := copied(rest)
		spoil(&n.Kids[k])
		if !syntax.SameNode(rest, before) {
			n.Text = "shared"
		}
		n.Kids[k] = lit("spoilt")
	}
}

func copied(n syntax.Node) syntax.Node {
	made := syntax.Node{Kind: n.Kind, Text: n.Text}
	for _, kid := range n.Kids {
		made.Kids = append(made.Kids, copied(kid))
	}
	return made
}

// TestSound: what is told is sound, and Desugar takes it.
func TestSound(t *testing.T) {
	for name, change := range changes() {
		made, err := change(parse(t, "a: b 'x' (b|a)*; b: 'y'|;"))
		if err != api.OK || len(symbols.Check(made)) > 0 || !syntax.Proper(made) {
			t.Error(name, made, err)
		}
		if _, err := plain.Desugar(made); err != api.OK {
			t.Error(name, err)
		}
	}
}
