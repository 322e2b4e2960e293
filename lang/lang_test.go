package lang_test

import (
	"math"
	"slices"
	"strconv"
	"strings"
	"testing"

	"primer/api"
	"primer/lang"
	"primer/plain"
	"primer/syntax"
)

func desugar(t *testing.T, text string) plain.Grammar {
	t.Helper()
	g, fault := syntax.Parse(text)
	p, err := plain.Desugar(g)
	if fault.Code != api.OK || err != api.OK {
		t.Fatal(text, fault, err)
	}
	return p
}

func to(left int, right ...int) plain.Prod {
	return plain.Prod{Left: left, Right: right}
}

// told: words by their texts, which have a letter each.
func told(p plain.Grammar, words [][]int) string {
	var l []string
	for _, word := range words {
		text := strings.Join(plain.Texts(p, word), "")
		if len(text) != len(word) {
			return "a terminal that isn't one"
		}
		l = append(l, "<"+text+">")
	}
	return strings.Join(l, "")
}

func TestWords(t *testing.T) {
	for _, c := range []struct {
		text string
		most int
		want string
	}{
		{"S: S S|'x';", 3, "<x><xx><xxx>"},
		{"S: S S|'x';", 1, "<x>"},
		{"S: S S|'x';", 0, ""},
		{"S: ;", 0, "<>"},
		{"S: |;", 64, "<>"},
		{"S: S;", 64, ""},
		{"S: S|S 'x';", 64, ""},
		{"S: 'x'* a; a: 'y'|;", 2, "<><x><y><xx><xy>"},
		{"S: 'y' 'x'|'x' 'y'|'x'|'y' 'y'|'y';", 2, "<y><x><yy><yx><xy>"}, // y is terminal 0
		{"S: 'x'|'x'|a|a; a: 'x'|S;", 5, "<x>"},
		{"S: 'x' 'y' 'z' 'x' 'y';", 5, "<xyzxy>"},
		{"S: 'x' 'y' 'z' 'x' 'y';", 4, ""},
		{"S: 'x' S 'y'|;", 7, "<><xy><xxyy><xxxyyy>"},
		{"S: a b a; a: 'x'|; b: 'y'?;", 3, "<><x><y><xx><xy><yx><xyx>"},
		{"S: 'x'+;", 4, "<x><xx><xxx><xxxx>"},
		{"S: ('x'|'y')*;", 2, "<><x><y><xx><xy><yx><yy>"},
		{"S: a* b? 'z'; a: ['x']; b: b b|'y';", 3, "<z><xz><yz><xxz><xyz><yyz>"},
		// what derives nothing, and what isn't come to
		{"S: 'x'|a; a: a 'y';", 3, "<x>"},
		{"S: 'x'|a 'y'; a: b; b: a; c: 'z'|S;", 3, "<x>"},
		{"%c; S: 'x'|a 'y'; a: b; b: a; c: 'z'|S;", 3, "<x><z>"},
		{"%a; a: a 'x'|a; b: 'y';", 3, ""},
		// rings of rules, of empty words too
		{"a: b|'x'; b: c|'y'; c: a|'z';", 1, "<x><y><z>"},
		{"a: e b e|'x'; b: e e a|'y' b; e: |e e;", 3, "<x><yx><yyx>"},
		{"a: a a|b b|; b: a|'x';", 4, "<><x><xx><xxx><xxxx>"},
		// the words of a beginning leave room for the rest
		{"S: a a 'x' 'y' 'z'; a: a 'x'|;", 4, "<xyz><xxyz>"},
		{"S: a 'x' a 'x' a; a: 'y'*;", 3, "<xx><xxy><xyx><yxx>"},
	} {
		p := desugar(t, c.text)
		words, err := lang.Words(p, c.most)
		if got := told(p, words); err != api.OK || got != c.want {
			t.Errorf("%s up to %d: %s %d, not %s", c.text, c.most, got, err, c.want)
		}
		for _, word := range words {
			if !lang.Derives(p, word) {
				t.Error(c.text, word)
			}
		}
	}
}

func byOrder(a, b []int) int {
	if len(a) != len(b) {
		return len(a) - len(b)
	}
	return slices.Compare(a, b)
}

func TestWordsRefuses(t *testing.T) {
	p := desugar(t, "S: 'x';")
	many := desugar(t, "S: 'x'|'y'|S S;")
	for _, c := range []struct {
		what string
		p    plain.Grammar
		most int
	}{
		{"below", p, -1}, {"above", p, api.MaxWord + 1}, {"the least", p, math.MinInt}, {"the greatest", p, math.MaxInt}, {"many", many, api.MaxWord + 1},
		{"no grammar", plain.Grammar{}, 3}, {"no start", plain.Grammar{Start: 1, Names: []string{"a"}}, 3},
		{"a symbol", plain.Grammar{Names: []string{"a"}, Prods: []plain.Prod{to(0, 1)}}, 3}, {"a terminal", plain.Grammar{Names: []string{"a"}, Prods: []plain.Prod{to(0, -1)}}, 0},
	} {
		if words, err := lang.Words(c.p, c.most); len(words) != 0 || err != api.ErrArg {
			t.Error(c.what, words, err)
		}
		if same, err := lang.Same(c.p, p, c.most); same || err != api.ErrArg {
			t.Error(c.what, same, err)
		}
		if same, err := lang.Same(p, c.p, c.most); same || err != api.ErrArg {
			t.Error(c.what, same, err)
		}
	}
	if words, err := lang.Words(plain.Grammar{Names: []string{"a"}}, api.MaxWord); len(words) != 0 || err != api.OK {
		t.Error(words, err)
	}
	if words, err := lang.Words(p, api.MaxWord); told(p, words) != "<x>" || err != api.OK {
		t.Error(words, err)
	}
}

// bits: a grammar whose nonterminal k derives the words of k terminals of two, and extra more of 12; the start derives what 12 does.
func bits(extra int) plain.Grammar {
	p := plain.Grammar{Start: 12, Terms: []string{"x", "y", "z"}}
	for k := range 13 {
		p.Names = append(p.Names, "n"+strconv.Itoa(k))
		if k == 0 {
			p.Prods = append(p.Prods, to(0))
			continue
		}
		p.Prods = append(p.Prods, to(k, -1, k-1), to(k, -2, k-1))
	}
	for k := range extra {
		p.Prods = append(p.Prods, to(12, slices.Repeat([]int{-3}, k)...))
	}
	return p
}

// start: a grammar with a start of its own, with some productions: its nonterminals' numbers, but the start's, are one more.
func start(p plain.Grammar, rows ...[]int) plain.Grammar {
	s := plain.Grammar{Names: append([]string{"start"}, p.Names...), Terms: p.Terms}
	for _, row := range rows {
		s.Prods = append(s.Prods, to(0, row...))
	}
	for _, prod := range p.Prods {
		right := slices.Clone(prod.Right)
		for k := range right {
			if right[k] >= 0 {
				right[k]++
			}
		}
		s.Prods = append(s.Prods, to(prod.Left+1, right...))
	}
	return s
}

// TestMaxWords: as many as may be, and one more, of the start and of others.
func TestMaxWords(t *testing.T) {
	want := func(what string, p plain.Grammar, most, count int) {
		t.Helper()
		words, err := lang.Words(p, most)
		if count >= 0 && (err != api.OK || len(words) != count) || count < 0 && (err != api.ErrLong || len(words) != 0) {
			t.Error(what, len(words), err)
		}
		if !slices.IsSortedFunc(words, byOrder) {
			t.Error(what, "not in order")
		}
		if same, err := lang.Same(p, p, most); same != (count >= 0) || (err == api.OK) != (count >= 0) {
			t.Error(what, same, err)
		}
	}
	const none = -1
	want("as many as may be", bits(0), 12, api.MaxWords)
	want("as many, longer", bits(0), 64, api.MaxWords)
	want("one more, the empty one", bits(1), 12, none)
	want("one more", bits(2), 64, none)
	want("each as many", start(bits(0), []int{13}, []int{13}), 12, api.MaxWords)
	want("one more, of the start", start(bits(0), []int{13}, []int{-1}), 12, none)
	full, more := bits(0), bits(1)
	want("behind one", start(full, []int{-1, 13}), 64, api.MaxWords)
	want("it alone, which is too long behind another", start(full, []int{-1, 13}, []int{-1}), 12, 1)
	want("too many, which are too long behind another", start(more, append(slices.Repeat([]int{-1}, 13), 13), []int{-1}), 12, none)
	want("too many, and the start one", start(more, []int{-1, -1, 13}, []int{-1}), 1, 1)
	want("what isn't come to", start(more, []int{-1}), 64, 1)
	more.Names = append(more.Names, "barren")
	more.Prods = append(more.Prods, to(13, 13, 13))
	want("by one that derives no word", start(more, []int{-1}, []int{14, 13}, []int{13, -1, 14}), 64, 1)
	want("by one that derives no word, and another way", start(more, []int{-1}, []int{14, 13}, slices.Repeat([]int{13}, api.MaxSide)), 12, none)
	want("a start that derives no word", start(more, []int{14, 13}, []int{13, 14}), 64, 0)
}

// TestMaxWordsOfBeginnings: they count as far as there is room for the rest.
func TestMaxWordsOfBeginnings(t *testing.T) {
	p := desugar(t, "S: a a b; a: 'x'|'y'|a a|; b: 'z' 'z' 'z' 'z' 'z' 'z';") // a a has more than may be up to 12
	for _, most := range []int{6, 7, 11} {
		words, err := lang.Words(p, most)
		if err != api.OK || len(words) != 1<<(most-5)-1 {
			t.Error(most, len(words), err)
		}
	}
	if words, err := lang.Words(p, 12); err != api.ErrLong || len(words) != 0 { // a alone has
		t.Error(len(words), err)
	}
	p = desugar(t, "S: a a b; a: c c c c c c; c: 'x'|'y'|; b: 'z' 'z' 'z' 'z' 'z' 'z';") // a hasn't, but a a has
	for _, most := range []int{6, 11, 12} {
		if words, err := lang.Words(p, most); err != api.OK || len(words) != 1<<(most-5)-1 {
			t.Error(most, len(words), err)
		}
	}
	p = desugar(t, "S: a a b; a: 'x'|'y'|'x' 'x'|'y' 'y' 'y'|'x' 'y' 'x' 'y' 'x' 'x' 'y' 'y'; b: 'z' b|'z';")
	if words, err := lang.Words(p, api.MaxWord); err != api.OK || len(words) < 1000 {
		t.Error(len(words), err)
	}
}

// TestManyTerminals: each of as many as may be is told from the others, and in their order.
func TestManyTerminals(t *testing.T) {
	p := plain.Grammar{Names: []string{"a"}}
	var want [][]int
	for k := range api.MaxProds {
		p.Terms = append(p.Terms, strconv.Itoa(k))
		p.Prods = append(p.Prods, to(0, k-api.MaxProds))
		want = append(want, []int{k})
	}
	words, err := lang.Words(p, api.MaxWord)
	if err != api.OK || !slices.EqualFunc(words, want, slices.Equal[[]int]) {
		t.Error(words, err)
	}
	p.Prods = []plain.Prod{to(0, -256, -1), to(0, -200, -256), to(0, -1, -256, 0), to(0, -129, -128), to(0, -128)}
	words, err = lang.Words(p, 3)
	if err != api.OK || !slices.EqualFunc(words, [][]int{{127}, {128, 127}, {199, 255}, {255, 0}, {0, 255, 127}}, slices.Equal[[]int]) {
		t.Error(words, err)
	}
	if !lang.Derives(p, []int{0, 255, 0, 255, 199, 255}) || lang.Derives(p, []int{0, 255, 0, 255, 255, 199}) || lang.Derives(p, []int{0, 256, 127}) {
		t.Error("derives")
	}
}

func TestDerives(t *testing.T) {
	p := desugar(t, "S: 'x' S 'y'|'z'|;")
	word := func(text string) []int {
		l, _ := plain.Word(p, strings.Split(text, ""))
		return l
	}
	for text, want := range map[string]bool{
		"": true, "z": true, "xy": true, "xzy": true, "xxyy": true, "x": false, "y": false, "yx": false, "xzzy": false, "xxy": false, "zxy": false,
		strings.Repeat("x", 32) + strings.Repeat("y", 32): true, strings.Repeat("x", 31) + "z" + strings.Repeat("y", 31): true,
		strings.Repeat("x", 31) + "zz" + strings.Repeat("y", 31): false, strings.Repeat("x", 33) + strings.Repeat("y", 31): false,
		strings.Repeat("x", 33) + strings.Repeat("y", 33): false,
	} {
		if got := lang.Derives(p, word(text)); got != want {
			t.Error(text, got)
		}
	}
	for _, word := range [][]int{{3}, {-1}, {0, 3}, {0, math.MaxInt}, {math.MinInt, 1}, {0, -1, 1}} {
		if lang.Derives(p, word) {
			t.Error(word)
		}
	}
	p = desugar(t, "S: 'x' 'y' 'z';")
	for _, word := range [][]int{{3, 2}, {3}, {0, 1, 3}, {-1, 1, 2}} {
		if lang.Derives(p, word) {
			t.Error(word)
		}
	}
	p = desugar(t, "S: 'x'|;")
	if !lang.Derives(p, []int{0}) || lang.Derives(p, []int{1}) {
		t.Error("one terminal")
	}
	p = desugar(t, "S: S S|'x'|;")
	for size := range api.MaxWord + 3 {
		if got := lang.Derives(p, make([]int, size)); got != (size <= api.MaxWord) {
			t.Error(size, got)
		}
	}
	for _, p := range []plain.Grammar{{}, {Start: 1, Names: []string{"a"}, Prods: []plain.Prod{to(0)}}, {Names: []string{"a"}}, {Names: []string{"a", "a"}, Prods: []plain.Prod{to(0)}}} {
		if lang.Derives(p, nil) {
			t.Error(p)
		}
	}
	p = plain.Grammar{Start: 1, Names: []string{"a", "b"}, Terms: []string{"x"}, Prods: []plain.Prod{to(0), to(1, -1), to(1, 0, 0)}}
	if !lang.Derives(p, nil) || !lang.Derives(p, []int{0}) || lang.Derives(p, []int{0, 0}) {
		t.Error("empty words")
	}
}

func TestSame(t *testing.T) {
	for _, c := range []struct {
		a, b string
		most int
		want bool
		err  api.Errno
	}{
		{"S: 'x'*;", "S: S S|'x'|;", 64, true, api.OK},
		{"S: 'x'*;", "S: S S|'x';", 64, false, api.OK},
		{"S: 'x' 'y'|'z';", "T: 'z'|U; U: 'x' V; V: 'y';", 64, true, api.OK}, // other numbers
		{"S: 'x' 'y';", "S: 'y' 'x';", 64, false, api.OK},                    // the same numbers
		{"S: 'x';", "S: 'y';", 64, false, api.OK},
		{"S: 'x';", "S: 'y';", 0, true, api.OK},
		{"S: 'xy';", "S: 'x' 'y';", 64, false, api.OK}, // the same bytes
		{"S: 'x' 'yx';", "S: 'xy' 'x';", 64, false, api.OK},
		{"S: \"\\x01\" 'x';", "S: \"\\x01x\" ;", 64, false, api.OK},
		{"S: 'x' \"\\x01y\";", "S: \"x\\x01\" 'y';", 64, false, api.OK},
		{"S: 'x' 'x' 'x';", "S: 'x' 'x';", 2, false, api.OK},
		{"S: 'x' 'x' 'x'|'x';", "S: 'x';", 2, true, api.OK},
		{"S: 'x' 'x' 'x'|'x';", "S: 'x';", 3, false, api.OK},
		{"S: 'x'; a: 'y';", "S: 'x'|b; b: b 'z';", 64, true, api.OK}, // terminals that stand in no word
		{"S: 'x' S;", "S: S;", 64, true, api.OK},
		{"S: 'x' S;", "S: ;", 64, false, api.OK},
		{"S: |'x';", "S: |'x'|'y';", 3, false, api.OK},
		{"S: |'x'|'y';", "S: 'x'|;", 3, false, api.OK},
		{"S: 'x'|'y'|S S;", "S: ('x'|'y')+;", 11, true, api.OK},
		{"S: 'x'|'y'|S S;", "S: ('x'|'y')*;", 11, false, api.OK},
		{"S: 'x'|'y'|S S;", "S: 'x';", 12, false, api.ErrLong},
		{"S: 'x';", "S: 'x'|'y'|S S;", 12, false, api.ErrLong},
	} {
		same, err := lang.Same(desugar(t, c.a), desugar(t, c.b), c.most)
		if same != c.want || err != c.err {
			t.Errorf("%s and %s up to %d: %v %d", c.a, c.b, c.most, same, err)
		}
	}
	many := desugar(t, "S: 'x'|'y'|S S;")
	if same, err := lang.Same(plain.Grammar{}, many, 64); same || err != api.ErrArg {
		t.Error(same, err)
	}
	if same, err := lang.Same(many, plain.Grammar{}, 64); same || err != api.ErrLong { // the first one's error
		t.Error(same, err)
	}
}

// TestNewMemory: no two words of an answer share theirs, and nothing of the arguments is changed.
func TestNewMemory(t *testing.T) {
	p := desugar(t, "S: 'x' S 'y'|'z' a|; a: a 'x'|b; b: b 'y';")
	for k := range p.Prods {
		p.Prods[k].Right = append(slices.Clone(p.Prods[k].Right), 77)[:len(p.Prods[k].Right)]
	}
	kept := plain.Lines(p)
	want, _ := lang.Words(p, 8)
	words, _ := lang.Words(p, 8)
	for k := range words {
		words[k] = append(words[k][:len(words[k]):cap(words[k])], 99)
		if k+1 < len(words) && !slices.Equal(words[k+1], want[k+1]) {
			t.Fatal("shared behind", k)
		}
		words[k][0] = 88
	}
	if again, _ := lang.Words(p, 8); !slices.EqualFunc(again, want, slices.Equal[[]int]) || len(want) != 5 {
		t.Error(again)
	}
	word := append([]int{0, 1}, 55)[:2]
	if !lang.Derives(p, word) || word[:3][2] != 55 || !slices.Equal(word, []int{0, 1}) {
		t.Error(word)
	}
	if !slices.Equal(plain.Lines(p), kept) {
		t.Error("changed")
	}
	for k := range p.Prods {
		if l := p.Prods[k].Right; l[:len(l)+1][len(l)] != 77 {
			t.Error("changed behind", k)
		}
	}
}
