package earley_test

import (
	"math"
	"slices"
	"strconv"
	"strings"
	"testing"

	"primer/api"
	"primer/earley"
	"primer/plain"
	"primer/syntax"
)

func desugar(t *testing.T, text string) plain.Grammar {
	t.Helper()
	g, fault := syntax.Parse(text)
	p, err := plain.Desugar(g)
	if fault.Code != api.OK || err != api.OK {
		t.Fatal(text, fault, err)
	}
	return p
}

func to(left int, right ...int) plain.Prod {
	return plain.Prod{Left: left, Right: right}
}

// spelled: the word of a text's letters.
func spelled(t *testing.T, p plain.Grammar, text string) []int {
	t.Helper()
	word, ok := plain.Word(p, strings.Split(text, "")[:len(text)])
	if !ok {
		t.Fatal(text)
	}
	return word
}

// told: of each beginning that is good its next terminals by their texts, with a point where a word may end; then what Yes says.
func told(p plain.Grammar, c *earley.Chart) string {
	var l []string
	for n := range c.Good() + 1 {
		text := strings.Join(plain.Texts(p, c.Next(n)), "")
		if c.Ends(n) {
			text += "."
		}
		l = append(l, text)
	}
	return strings.Join(append(l, strconv.FormatBool(c.Yes())), " ")
}

func TestChart(t *testing.T) {
	for _, c := range []struct{ text, word, want string }{
		{"S: 'x' S 'y'|'z';", "xxy", "xz xz xz false"}, // the chapter's own
		{"S: 'x' S 'y'|'z';", "xxzyy", "xz xz xz y y . true"},
		{"S: 'x' S 'y'|'z';", "xxzyyy", "xz xz xz y y . false"},
		{"S: 'x' S 'y'|'z';", "", "xz false"},
		{"S: 'x' S 'y'|'z';", "y", "xz false"},
		{"S: 'x' S 'y'|'z';", "z", "xz . true"},
		{"S: 'x' S 'y'|'z';", "zz", "xz . false"},
		{"S: 'x' S 'y'|'z';", "xzx", "xz xz y false"},
		// words that end on the way
		{"S: 'x'*;", "xxx", "x. x. x. x. true"},
		{"S: 'x'* 'y'?;", "xyx", "xy. xy. . false"},
		{"S: S S|'x';", "xx", "x x. x. true"},
		{"S: S S|'x'|;", "xx", "x. x. x. true"},
		{"S: ;", "", ". true"},
		{"S: |;", "", ". true"},
		// nothing is derived
		{"S: S;", "", "false"},
		{"S: S 'x';", "x", "false"},
		{"S: 'x' a; a: a;", "x", "false"},
		{"S: a; a: b 'x'; b: 'y' a;", "yx", "false"},
		// what derives no word leads nowhere
		{"S: 'x'|'y' a; a: 'z' a;", "y", "x false"},
		{"S: 'x'|'x' 'y' a|'x' 'z'; a: a;", "xy", "x z. false"},
		{"S: 'x' b|a 'y'; a: 'z' a; b: 'y' a|'z';", "xz", "x z . true"},
		// terminals that the start never comes to
		{"S: 'x'; a: 'y';", "xy", "x . false"},
		{"%a; S: 'x'; a: 'y';", "y", "y . true"},
		{"%a; S: 'x'; a: 'y' S;", "yx", "y x . true"},
		// empty words between, ahead and behind
		{"S: a b a 'z' a; a: ; b: a a;", "z", "z . true"},
		{"S: a b a 'z' a b; a: 'x'|; b: 'y'|a a;", "xxz", "zxy zxy zx xy. true"},
		{"S: a b a 'z' a b; a: 'x'|; b: 'y'|a a;", "xxxxz", "zxy zxy zx zx z xy. true"},
		{"S: a b a 'z' a b; a: 'x'|; b: 'y'|a a;", "xxxxx", "zxy zxy zx zx z false"},
		{"S: a b a 'z' a b; a: 'x'|; b: 'y'|a a;", "xyxzxy", "zxy zxy zx z xy. xy. . true"},
		{"a: e b e|'x'; b: e e a|'y' b; e: |e e;", "yyx", "xy xy xy . true"},
		// chains and rings of nonterminals
		{"a: b|'x'; b: c|'y'; c: a|'z';", "z", "xyz . true"},
		{"a: b|'x'; b: c|'y'; c: a 'z'|;", "xzz", "xyz. z. z. z. true"},
		// left, right and in the middle
		{"S: S 'x'|'y';", "yxx", "y x. x. x. true"},
		{"S: 'x' S|'y';", "xxy", "xy xy xy . true"},
		{"S: 'x' S 'x'|'y' S 'y'|;", "xyyx", "xy. xy xy xy xy. true"},
		{"S: 'x' S 'x'|'y' S 'y'|;", "xyxyyx", "xy. xy xy xy xy xy xy false"},
		// an end that comes too late and one that comes too early
		{"S: 'x' 'y' 'z';", "xyz", "x y z . true"},
		{"S: 'x' 'y' 'z';", "xyzz", "x y z . false"},
		{"S: 'x' 'y' 'z';", "xzy", "x y false"},
		{"S: 'x' 'y'|'x' 'z' 'y'|'y' 'z';", "xzz", "xy yz y false"},
		// the next terminals by their numbers: y is 0, x is 1
		{"S: 'y' 'x'|'x' 'y'|'x'|'y' 'y'|'y';", "y", "yx yx. true"},
		{"S: 'y' 'x'|'x' 'y'|'x'|'y' 'y'|'y';", "x", "yx y. true"},
	} {
		p := desugar(t, c.text)
		if got := told(p, earley.Make(p, spelled(t, p, c.word))); got != c.want {
			t.Errorf("%s, %q: %s, not %s", c.text, c.word, got, c.want)
		}
	}
}

// TestOutside: places that are none.
func TestOutside(t *testing.T) {
	p := desugar(t, "S: 'x'*|'y';")
	c := earley.Make(p, spelled(t, p, "xxyx"))
	if c.Good() != 2 || c.Yes() {
		t.Error(c.Good(), c.Yes())
	}
	for _, n := range []int{-1, -2, 3, 4, 5, math.MinInt, math.MaxInt} {
		if c.Ends(n) || len(c.Next(n)) != 0 {
			t.Error(n, c.Ends(n), c.Next(n))
		}
	}
	c = earley.Make(p, spelled(t, p, "xx"))
	if c.Good() != 2 || !c.Yes() || !c.Ends(2) || c.Ends(3) || len(c.Next(2)) != 1 || len(c.Next(3)) != 0 {
		t.Error(c.Good(), c.Yes(), c.Ends(3), c.Next(2), c.Next(3))
	}
	none := desugar(t, "S: S 'x';")
	c = earley.Make(none, []int{0})
	if c == nil || c.Good() != -1 || c.Yes() {
		t.Fatal(c)
	}
	for n := -2; n < 3; n++ {
		if c.Ends(n) || len(c.Next(n)) != 0 {
			t.Error(n, c.Ends(n), c.Next(n))
		}
	}
	if c := earley.Make(none, nil); c == nil || c.Good() != -1 || c.Yes() || c.Ends(-1) || c.Ends(0) {
		t.Error(c)
	}
}

func TestRefuses(t *testing.T) {
	p := desugar(t, "S: 'x' S|'y'|;")
	for _, c := range []struct {
		what string
		p    plain.Grammar
		word []int
	}{
		{"no grammar", plain.Grammar{}, nil}, {"no start", plain.Grammar{Start: 1, Names: []string{"a"}}, nil}, {"a name", plain.Grammar{Names: []string{""}}, nil},
		{"a symbol", plain.Grammar{Names: []string{"a"}, Prods: []plain.Prod{to(0, 1)}}, nil}, {"a terminal", plain.Grammar{Names: []string{"a"}, Prods: []plain.Prod{to(0, -1)}}, nil},
		{"an order", plain.Grammar{Names: []string{"a", "b"}, Prods: []plain.Prod{to(1), to(0)}}, nil},
		{"below", p, []int{-1}}, {"above", p, []int{2}}, {"behind", p, []int{0, 0, 2}}, {"behind what is bad", p, []int{1, 1, -1}},
		{"the least", p, []int{math.MinInt}}, {"the greatest", p, []int{0, math.MaxInt}}, {"long", p, make([]int, api.MaxWord+1)}, {"longer", p, make([]int, 1000)},
	} {
		c := earley.Make(c.p, c.word)
		if c != nil {
			t.Error(c)
		}
		for _, n := range []int{-1, 0, 1, math.MinInt, math.MaxInt} {
			if c.Yes() || c.Good() != -1 || len(c.Next(n)) != 0 || c.Ends(n) {
				t.Error("of none:", c.Yes(), c.Good(), c.Next(n), c.Ends(n))
			}
		}
	}
	if c := earley.Make(plain.Grammar{Names: []string{"a"}}, nil); c == nil || c.Good() != -1 {
		t.Error("no productions:", c)
	}
}

// TestLongest: words of as many terminals as may be, and what comes behind them.
func TestLongest(t *testing.T) {
	const half = api.MaxWord / 2
	p := desugar(t, "S: 'x' S 'y'|'z' 'z'|'z'? a; a: ;") // x, y, z by their numbers too
	for _, c := range []struct {
		word string
		good int
		yes  bool
		next string
	}{
		{strings.Repeat("x", half) + strings.Repeat("y", half), 64, true, ""},
		{strings.Repeat("x", half-1) + "zz" + strings.Repeat("y", half-1), 64, true, ""},
		{strings.Repeat("x", half) + "z" + strings.Repeat("y", half-1), 64, false, "y"},
		{strings.Repeat("x", 64), 64, false, "xyz"},
		{strings.Repeat("x", 63) + "z", 64, false, "yz"},
		{strings.Repeat("x", 63) + "y", 64, false, "y"},
		{strings.Repeat("x", 62) + "zz", 64, false, "y"},
		{strings.Repeat("x", 61) + "zzz", 63, false, ""},
		{strings.Repeat("x", half-1) + strings.Repeat("y", half+1), 62, false, ""},
	} {
		chart := earley.Make(p, spelled(t, p, c.word))
		if chart.Good() != c.good || chart.Yes() != c.yes || chart.Ends(64) != c.yes {
			t.Error(c.word, chart.Good(), chart.Yes())
		}
		if got := plain.Texts(p, chart.Next(64)); strings.Join(got, "") != c.next {
			t.Error(c.word, got)
		}
	}
}

// TestEachPlace: of a longest word each place's beginning of a production is told from the others'.
func TestEachPlace(t *testing.T) {
	p := desugar(t, "S: a*; a: 'x' b 'z'|'y'; b: c 'x'?; c: ; d: e 'y'; e: 'x'+;") // x, z, y by their numbers
	word := spelled(t, p, strings.Repeat("xxzy", 16))
	c := earley.Make(p, word)
	if c.Good() != 64 || !c.Yes() {
		t.Fatal(c.Good(), c.Yes())
	}
	for n := range 65 {
		want := []string{"xy.", "xz", "z", "xy."}[n%4]
		got := strings.Join(plain.Texts(p, c.Next(n)), "")
		if c.Ends(n) {
			got += "."
		}
		if got != want {
			t.Error(n, got)
		}
	}
}

// TestNewMemory: what is answered is the caller's, and nothing of the arguments is changed or kept.
func TestNewMemory(t *testing.T) {
	p := desugar(t, "S: 'x' S 'y'|'z' a|; a: a 'x'|b; b: b 'y'|'z';")
	for k := range p.Prods {
		p.Prods[k].Right = append(slices.Clone(p.Prods[k].Right), 77)[:len(p.Prods[k].Right)]
	}
	kept := plain.Lines(p)
	word := append(spelled(t, p, "xxzz"), 55)[:4]
	c := earley.Make(p, word)
	want := told(p, c)
	for n := range 5 {
		l := c.Next(n)
		l = append(l[:len(l):cap(l)], 99)
		for k := range l {
			l[k] = 88
		}
	}
	if got := told(p, c); got != want {
		t.Error(got, want)
	}
	if word[:5][4] != 55 || !slices.Equal(word, spelled(t, p, "xxzz")) || !slices.Equal(plain.Lines(p), kept) {
		t.Error("changed")
	}
	for k := range p.Prods {
		if l := p.Prods[k].Right; l[:len(l)+1][len(l)] != 77 {
			t.Error("changed behind", k)
		}
	}
	texts := plain.Grammar{Terms: slices.Clone(p.Terms)}
	for k := range p.Prods {
		clear(p.Prods[k].Right)
	}
	clear(p.Prods)
	clear(p.Names)
	clear(p.Terms)
	clear(word)
	if got := told(texts, c); got != want {
		t.Error(got, want)
	}
}

// TestLargest: grammars as large as may be, of which each item stands at each place for all that are ahead, are answered soon.
func TestLargest(t *testing.T) {
	var one, each plain.Grammar
	for k := range api.MaxProds {
		one.Names = append(one.Names, "n"+strconv.Itoa(k))
		one.Terms = append(one.Terms, strconv.Itoa(k))
		one.Prods = append(one.Prods, to(0, slices.Repeat([]int{0}, api.MaxSide)...))
		each.Prods = append(each.Prods, to(k, slices.Repeat([]int{(k + 1) % api.MaxProds}, api.MaxSide)...))
	}
	each.Names, each.Terms = one.Names, one.Terms
	one.Prods[0].Right, one.Prods[1].Right = nil, []int{-1}
	each.Prods = append(each.Prods[:253], to(253), to(253, 255, 253), to(255, -1))
	for what, p := range map[string]plain.Grammar{"one": one, "each": each} {
		c := earley.Make(p, make([]int, api.MaxWord))
		if c.Good() != api.MaxWord || !c.Yes() || !slices.Equal(c.Next(64), []int{0}) {
			t.Error(what, c.Good(), c.Yes(), c.Next(64))
		}
	}
}
