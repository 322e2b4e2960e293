package symbols_test

import (
	"reflect"
	"slices"
	"strconv"
	"strings"
	"testing"

	"primer/api"
	"primer/lex"
	"primer/symbols"
	"primer/syntax"
)

func parse(t *testing.T, text string) syntax.Grammar {
	t.Helper()
	g, fault := syntax.Parse(text)
	if fault != (lex.Fault{}) {
		t.Fatal(text, fault)
	}
	return g
}

func node(kind int, text string, kids ...syntax.Node) syntax.Node {
	return syntax.Node{Kind: kind, Text: text, Kids: kids}
}

// odd is no proper grammar: its names are any texts, its Refs and Lits have kids.
func odd() syntax.Grammar {
	inner := node(syntax.Ref, "within")
	return syntax.Grammar{Start: "", Rules: []syntax.Rule{
		{Name: "a b", Body: node(syntax.Ref, "", inner, node(syntax.Lit, "x"))},
		{Name: "\xff", Body: node(syntax.Lit, "", node(syntax.Ref, "a b"), node(syntax.Lit, "y"))},
		{Name: "\xff", Body: node(77, "z", node(syntax.Lit, "y"), node(syntax.Ref, "\xff"), node(syntax.Lit, strings.Repeat("x", api.MaxLiteral+1)))},
		{Name: "c", Body: node(0, "")},
	}}
}

func TestTable(t *testing.T) {
	type table = []symbols.Symbol
	for text, want := range map[string]table{
		"a:;":                         {{"a", 0, 0}},
		"a:a;":                        {{"a", 0, 1}},
		"a: b b; c: a 'x';":           {{"a", 0, 1}, {"c", 1, 0}, {"b", -1, 2}},
		"%c;a:'b'|\"a\";b:;":          {{"a", 0, 0}, {"b", 1, 0}},
		"b:a;a:b|a;":                  {{"b", 0, 1}, {"a", 1, 2}},
		"a:;b:;a:c;b:a;c:b;":          {{"a", 0, 1}, {"b", 1, 1}, {"c", 4, 1}},
		"a:z [y|(x z)*]+;b:y w? b z;": {{"a", 0, 0}, {"b", 1, 1}, {"z", -1, 3}, {"y", -1, 2}, {"x", -1, 1}, {"w", -1, 1}},
		"A:a;a:A a-b a_b;":            {{"A", 0, 1}, {"a", 1, 1}, {"a-b", -1, 1}, {"a_b", -1, 1}},
	} {
		g := parse(t, text)
		if got := symbols.Table(g); !slices.Equal(got, want) {
			t.Errorf("%s: %v, not %v", text, got, want)
		}
	}
	if got := symbols.Table(syntax.Grammar{Start: "a"}); len(got) != 0 {
		t.Error(got)
	}
	want := table{{"a b", 0, 1}, {"\xff", 1, 1}, {"c", 3, 0}, {"", -1, 1}}
	if got := symbols.Table(odd()); !slices.Equal(got, want) {
		t.Errorf("%v", got)
	}
}

func TestTerminals(t *testing.T) {
	for text, want := range map[string][]string{
		"a:;":                                 nil,
		"a:b|[b]*;":                           nil,
		"a:'x';":                              {"x"},
		"a:'x' 'x'|\"x\";b:'x';":              {"x"},
		"%b;a:{'c'|('b' a)+} ['a'];b:'d''b';": {"c", "b", "a", "d"},
		`a:'\x00' "'" '"' '\n\xff' 'a';`:      {"\x00", "'", "\"", "\n\xff", "a"},
		"a:'b';a:'a';a:'b' 'c';":              {"b", "a", "c"},
		"a:'xy' 'y' 'x' 'xyz' 'yx' 'xy';":     {"xy", "y", "x", "xyz", "yx"},
	} {
		g := parse(t, text)
		if got := symbols.Terminals(g); !slices.Equal(got, want) {
			t.Errorf("%s: %q, not %q", text, got, want)
		}
	}
	if got := symbols.Terminals(syntax.Grammar{}); len(got) != 0 {
		t.Error(got)
	}
	if got := symbols.Terminals(odd()); !slices.Equal(got, []string{"x", "", "y", strings.Repeat("x", api.MaxLiteral+1)}) {
		t.Errorf("%q", got)
	}
}

func TestCheck(t *testing.T) {
	exists := func(rule int, name string) symbols.Problem { return symbols.Problem{api.ErrExists, rule, name} }
	none := func(rule int, name string) symbols.Problem { return symbols.Problem{api.ErrNone, rule, name} }
	start := func(name string) symbols.Problem { return symbols.Problem{api.ErrStart, -1, name} }
	type problems = []symbols.Problem
	for text, want := range map[string]problems{
		"a:;":                             nil,
		"a:a|'x';":                        nil,
		"%b;a:b;b:a;":                     nil,
		"a:b;b:[c]*|(a)+;c:;":             nil,
		"a: b b; c: a 'x';":               {none(0, "b")},
		"%b;a:'b';":                       {start("b")},
		"%b;a:b;":                         {none(0, "b"), start("b")},
		"a:;a:;":                          {exists(1, "a")},
		"a:;a:;b:;a:;b:;":                 {exists(1, "a"), exists(3, "a"), exists(4, "b")},
		"a:c;a:c b c;":                    {none(0, "c"), exists(1, "a"), none(1, "c"), none(1, "b")},
		"a:{z|[y x]+|y} a z;b:x;c:w;":     {none(0, "z"), none(0, "y"), none(0, "x"), none(1, "x"), none(2, "w")},
		"%A;a:A;a:a;":                     {none(0, "A"), exists(1, "a"), start("A")},
		"%z;a:;b:z;b:y;c:;c:;":            {none(1, "z"), exists(2, "b"), none(2, "y"), exists(4, "c"), start("z")},
		"%c;a:b;a:;c:;b:;":                {exists(1, "a")},
		"a:b;" + strings.Repeat("b:;", 3): {exists(2, "b"), exists(3, "b")},
	} {
		if got := symbols.Check(parse(t, text)); !slices.Equal(got, want) {
			t.Errorf("%s: %v, not %v", text, got, want)
		}
	}
	for _, name := range []string{"", "a"} {
		if got := symbols.Check(syntax.Grammar{Start: name}); !slices.Equal(got, problems{start(name)}) {
			t.Errorf("%v", got)
		}
	}
	if got := symbols.Check(odd()); !slices.Equal(got, problems{none(0, ""), exists(2, "\xff"), start("")}) {
		t.Errorf("%v", got)
	}
}

func sameCalls(a, b [][]int) bool {
	return slices.EqualFunc(a, b, func(x, y []int) bool { return slices.Equal(x, y) })
}

func TestCalls(t *testing.T) {
	for text, want := range map[string][][]int{
		"a:;":                           {{}},
		"a:'a'|b;":                      {{}},
		"a:a a|a;":                      {{0}},
		"a: b b; c: a 'x';":             {{}, {0}},
		"a:c b c;b:b z a b;c:;":         {{1, 2}, {0, 1}, {}},
		"a:b;b:;b:b a;a:[(a|b)*]+;c:a;": {{1}, {}, {0, 1}, {0, 1}, {0}},
		"%c;d:a b c d;c:a;b:d c;a:b;":   {{0, 1, 2, 3}, {3}, {0, 1}, {2}},
	} {
		g := parse(t, text)
		if got := symbols.Calls(g); !sameCalls(got, want) {
			t.Errorf("%s: %v, not %v", text, got, want)
		}
	}
	if got := symbols.Calls(syntax.Grammar{Start: "a"}); len(got) != 0 {
		t.Error(got)
	}
	if got := symbols.Calls(odd()); !sameCalls(got, [][]int{{}, {0}, {1}, {}}) {
		t.Error(got)
	}
}

func TestRecursive(t *testing.T) {
	for text, want := range map[string][]string{
		"a:;":                               nil,
		"a: b b; c: a 'x';":                 nil,
		"a:a;":                              {"a"},
		"a:'x' [b (a)]*;b:;":                {"a"},
		"a:b;b:c;c:d;d:;":                   nil,
		"a:b;b:c;c:d;d:b;":                  {"b", "c", "d"},
		"a:b c;b:d;c:d;d:;":                 nil,
		"a:a b;b:c;c:c;":                    {"a", "c"},
		"a:b;b:a;c:a d;d:e;e:d;":            {"a", "b", "d", "e"},
		"e:d;d:c;c:e b;b:a;a:f;f:a;g:g|a;":  {"e", "d", "c", "a", "f", "g"},
		"%z;a:z;z:;b:'b';":                  nil,
		"a:;a:a;":                           nil, // the second one comes to the first, and no further
		"a:a;a:;":                           {"a"},
		"a:b;a:a;b:;b:a;":                   nil,
		"a:b;b:a;b:;a:a;":                   {"a", "b"},
		"c:;a:b;a:;b:a;c:c;b:b;":            {"a", "b"},
		"a:b c;b:a;c:b;d:c;x:y;y:d x|none;": {"a", "b", "c", "x", "y"},
	} {
		g := parse(t, text)
		if got := symbols.Recursive(g); !slices.Equal(got, want) {
			t.Errorf("%s: %q, not %q", text, got, want)
		}
	}
	if got := symbols.Recursive(syntax.Grammar{Start: "a"}); len(got) != 0 {
		t.Error(got)
	}
	if got := symbols.Recursive(odd()); len(got) != 0 {
		t.Error(got)
	}
}

// TestLongWays: more rules than a text can have, each of which calls the next one.
func TestLongWays(t *testing.T) {
	const size = 300000
	rules := make([]syntax.Rule, size)
	for k := range rules {
		rules[k] = syntax.Rule{Name: "r" + strconv.Itoa(k), Body: node(syntax.Ref, "r"+strconv.Itoa(k+1))}
	}
	g := syntax.Grammar{Start: "r0", Rules: rules}
	if got := symbols.Check(g); !slices.Equal(got, []symbols.Problem{{api.ErrNone, size - 1, "r" + strconv.Itoa(size)}}) {
		t.Error(len(got))
	}
	if got := symbols.Table(g); len(got) != size+1 || got[size] != (symbols.Symbol{Name: "r" + strconv.Itoa(size), Rule: -1, Uses: 1}) {
		t.Error(len(got))
	}
	if got := symbols.Recursive(g); len(got) != 0 {
		t.Error(len(got))
	}
	rules[size-1].Body.Text = "r7"
	if got := symbols.Recursive(g); len(got) != size-7 || got[0] != "r7" {
		t.Error(len(got))
	}
	deep := node(syntax.Ref, "a")
	for range 1 << 14 {
		deep = node(syntax.Seq, "", deep, node(syntax.Lit, "x"))
	}
	g = syntax.Grammar{Start: "a", Rules: []syntax.Rule{{Name: "a", Body: deep}}}
	if names, texts := symbols.Recursive(g), symbols.Terminals(g); !slices.Equal(names, []string{"a"}) || !slices.Equal(texts, []string{"x"}) {
		t.Error(names, texts)
	}
}

// TestNewMemory: an answer is nobody else's, and what was handed in is as it was.
func TestNewMemory(t *testing.T) {
	text := "a:b c 'x' 'y';b:a c a 'z';c:c b none;d:;a:a;"
	g, kept := parse(t, text), parse(t, text)
	ask := func() []any {
		return []any{symbols.Table(g), symbols.Terminals(g), symbols.Check(g), symbols.Calls(g), symbols.Recursive(g)}
	}
	first, want := ask(), ask()
	for _, calls := range first[3].([][]int) {
		calls = append(calls, -5, -5)
		for k := range calls {
			calls[k] = -5
		}
	}
	for k, calls := range symbols.Calls(g) {
		if !slices.Equal(calls, want[3].([][]int)[k]) {
			t.Error("shared calls", calls)
		}
	}
	calls := symbols.Calls(g)
	for k := range calls {
		_ = append(calls[k], -7)
	}
	first[0].([]symbols.Symbol)[0] = symbols.Symbol{}
	first[1].([]string)[0] = "spoilt"
	first[2].([]symbols.Problem)[0] = symbols.Problem{}
	first[4].([]string)[0] = "spoilt"
	if !reflect.DeepEqual(ask(), want) || !reflect.DeepEqual(any(calls), want[3]) || !syntax.Same(g, kept) {
		t.Error("shared")
	}
}
