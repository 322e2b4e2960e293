package facts_test

import (
	"math"
	"reflect"
	"slices"
	"strconv"
	"strings"
	"testing"

	"primer/api"
	"primer/facts"
	"primer/plain"
	"primer/syntax"
)

// grammar of lines "S -> S 'x'", parted by ";": nonterminals and terminals have their numbers as they come, left sides ahead.
func grammar(t *testing.T, text string) plain.Grammar {
	t.Helper()
	var p plain.Grammar
	var lines [][]string
	number := func(l *[]string, name string) int {
		if k := slices.Index(*l, name); k >= 0 {
			return k
		}
		*l = append(*l, name)
		return len(*l) - 1
	}
	for line := range strings.SplitSeq(text, ";") {
		fields := strings.Fields(line)
		lines = append(lines, fields)
		number(&p.Names, fields[0])
	}
	for _, fields := range lines {
		prod := plain.Prod{Left: number(&p.Names, fields[0])}
		for _, name := range fields[2:] {
			if term, ok := strings.CutPrefix(name, "'"); ok {
				prod.Right = append(prod.Right, -1-number(&p.Terms, strings.TrimSuffix(term, "'")))
			} else {
				prod.Right = append(prod.Right, number(&p.Names, name))
			}
		}
		p.Prods = append(p.Prods, prod)
	}
	if !plain.Sound(p) {
		t.Fatal("not sound: ", text)
	}
	return p
}

func to(left int, right ...int) plain.Prod {
	return plain.Prod{Left: left, Right: right}
}

// names of those of which it holds.
func names(p plain.Grammar, holds []bool) string {
	var l []string
	for k, yes := range holds {
		if yes {
			l = append(l, p.Names[k])
		}
	}
	if len(holds) != len(p.Names) {
		return "as many as " + strconv.Itoa(len(holds))
	}
	return strings.Join(l, " ")
}

func firsts(p plain.Grammar, first [][]int) string {
	var l []string
	for _, terms := range first {
		l = append(l, strings.Join(plain.Texts(p, terms), ""))
	}
	return strings.Join(l, " ")
}

func TestFacts(t *testing.T) {
	for _, c := range []struct {
		text, nullable, generating, reachable, loops string
		shortest                                     []int
		first                                        string
	}{
		{"S -> S S; S -> 'x'; S ->", "S", "S", "S", "S", []int{0}, "x"},
		{"S -> S S; S -> 'x'", "", "S", "S", "", []int{1}, "x"},
		{"S -> S", "", "", "S", "S", []int{-1}, ""},
		{"S -> S 'x'", "", "", "S", "", []int{-1}, ""},
		{"S -> 'x' S", "", "", "S", "", []int{-1}, ""},
		{"S ->", "S", "S", "S", "", []int{0}, ""},
		{"S -> ; S -> S S S", "S", "S", "S", "S", []int{0}, ""},
		// what is ahead derives the empty word, or not
		{"S -> A B C; A -> 'a'; A ->; B -> 'b'; B ->; C -> 'c'", "A B", "S A B C", "S A B C", "", []int{1, 0, 0, 1}, "abc a b c"},
		{"S -> A B; A -> 'a'; B -> 'b'", "", "S A B", "S A B", "", []int{2, 1, 1}, "a a b"},
		{"S -> A B; A ->; B ->", "S A B", "S A B", "S A B", "", []int{0, 0, 0}, "  "},
		{"S -> A S B; S -> 'c'; A -> 'a'; A ->; B -> 'b'; B ->", "A B", "S A B", "S A B", "S", []int{1, 0, 0}, "ca a b"},
		{"S -> S A; S -> A; A -> 'a' ; A -> B ; B -> S; B -> 'b'", "", "S A B", "S A B", "S A B", []int{1, 1, 1}, "ab ab ab"},
		// what derives no word
		{"S -> 'x' B; S -> 'y'; B -> B", "", "S", "S B", "B", []int{1, -1}, "y "},
		{"S -> B 'x'; S -> 'y' 'y'; B -> 'z' B", "", "S", "S B", "", []int{2, -1}, "y "},
		{"S -> N 'x' B; S -> N 'y'; N ->; B -> B 'z'", "N", "S N", "S N B", "", []int{1, 0, -1}, "y  "},
		// what isn't come to, and what is by what derives no word
		{"S -> 'x'; A -> B; B -> 'y' S", "", "S A B", "S", "", []int{1, 2, 2}, "x y y"},
		{"S -> A 'x'; A -> A B; B -> 'b' C; C -> ; D -> S", "C", "B C", "S A B C", "", []int{-1, -1, 1, 0, -1}, "  b  "},
		// others in it that derive the empty word, and such that don't
		{"A -> A N; A -> N; N ->", "A N", "A N", "A N", "A", []int{0, 0}, " "},
		{"A -> B 'x'; B -> A", "", "", "A B", "", []int{-1, -1}, " "},
		{"A -> N B N; B -> N N A N; N ->", "N", "N", "A B N", "A B", []int{-1, -1, 0}, "  "},
		{"A -> B B; B -> A; B -> 'b'", "", "A B", "A B", "", []int{2, 1}, "b b"},
		{"A -> B; B -> C; C -> B; C -> 'c'; D -> A", "", "A B C D", "A B C", "B C", []int{1, 1, 1, 1}, "c c c c"},
		{"A -> A B; B -> B A; B ->", "B", "B", "A B", "A", []int{-1, 0}, " "},
	} {
		p := grammar(t, c.text)
		if got := names(p, facts.Nullable(p)); got != c.nullable {
			t.Errorf("%s: nullable %s", c.text, got)
		}
		if got := names(p, facts.Generating(p)); got != c.generating {
			t.Errorf("%s: generating %s", c.text, got)
		}
		if got := names(p, facts.Reachable(p)); got != c.reachable {
			t.Errorf("%s: reachable %s", c.text, got)
		}
		if got := names(p, facts.Loops(p)); got != c.loops {
			t.Errorf("%s: loops %s", c.text, got)
		}
		if got := facts.Shortest(p); !slices.Equal(got, c.shortest) {
			t.Errorf("%s: shortest %v", c.text, got)
		}
		if got := firsts(p, facts.First(p)); len(facts.First(p)) != len(p.Names) || sorted(got) != sorted(c.first) {
			t.Errorf("%s: first %q", c.text, got)
		}
	}
}

// sorted: each word's letters, as the terminals' numbers are in the order in which they come in the text.
func sorted(text string) string {
	l := strings.Split(text, " ")
	for k, word := range l {
		letters := []byte(word)
		slices.Sort(letters)
		l[k] = string(letters)
	}
	return strings.Join(l, " ")
}

func TestStart(t *testing.T) {
	p := grammar(t, "A -> B; B -> 'b' B; C -> B 'c'")
	for start, want := range []string{"A B", "B", "B C"} {
		p.Start = start
		if got := names(p, facts.Reachable(p)); got != want {
			t.Errorf("from %d: %s", start, got)
		}
	}
	p = plain.Grammar{Names: []string{"a", "b"}, Start: 1}
	if names(p, facts.Reachable(p)) != "b" || names(p, facts.Nullable(p)) != "" || names(p, facts.Loops(p)) != "" || names(p, facts.Generating(p)) != "" {
		t.Error("of no productions")
	}
	if !slices.Equal(facts.Shortest(p), []int{-1, -1}) || len(facts.First(p)) != 2 {
		t.Error("of no productions")
	}
}

// TestFirstOrder: rising, each once.
func TestFirstOrder(t *testing.T) {
	p := plain.Grammar{Names: []string{"a", "b"}, Terms: []string{"x", "y", "z"}, Prods: []plain.Prod{
		to(0, -3, -2), to(0, 1, -2), to(0, -3), to(0, 1, 1), to(1, -3, 1), to(1, -1), to(1),
	}}
	if got := facts.First(p); !reflect.DeepEqual(got, [][]int{{0, 1, 2}, {0, 2}}) {
		t.Error(got)
	}
	p = plain.Grammar{Names: []string{"a"}, Prods: make([]plain.Prod, api.MaxProds)}
	var all []int
	for t := range api.MaxProds {
		p.Terms = append(p.Terms, strconv.Itoa(t))
		p.Prods[api.MaxProds-1-t].Right = []int{-1 - t, 0}
		all = append(all, t)
	}
	p.Prods[5].Right = nil
	all = slices.Delete(all, api.MaxProds-6, api.MaxProds-5)
	if got := facts.First(p); len(got) != 1 || !slices.Equal(got[0], all) {
		t.Error(got)
	}
}

// powers: nonterminals each of which derives as many words as told of the next one, the last one x alone.
func powers(names, times int) plain.Grammar {
	p := plain.Grammar{Terms: []string{"x"}}
	for k := range names {
		p.Names = append(p.Names, strconv.Itoa(k))
		right := []int{-1}
		if k+1 < names {
			right = slices.Repeat([]int{k + 1}, times)
		}
		p.Prods = append(p.Prods, plain.Prod{Left: k, Right: right})
	}
	return p
}

func TestLongShortest(t *testing.T) {
	for _, times := range []int{2, 3, api.MaxSide} {
		p := powers(api.MaxProds, times)
		got := facts.Shortest(p)
		for k, want := api.MaxProds-1, 1; k >= 0; k-- {
			if got[k] != want {
				t.Fatal(times, k, got[k], want)
			}
			want = min(want*times, api.MaxCount)
		}
		if slices.Contains(facts.Generating(p), false) || slices.Contains(facts.Nullable(p), true) || slices.Contains(facts.Loops(p), true) {
			t.Error("of long words")
		}
		if first := facts.First(p); !slices.Equal(first[0], []int{0}) {
			t.Error(first[0])
		}
	}
}

// TestNearMaxCount: 2^39 + 2^38 + .. + 1 is one less than MaxCount.
func TestNearMaxCount(t *testing.T) {
	p := powers(40, 2)
	run := func(first, last int) []int {
		var l []int
		for k := first; k <= last; k++ {
			l = append(l, k)
		}
		return l
	}
	p.Names = append(p.Names, "sum", "high", "higher")
	p.Start = 40
	sum, high := append(run(0, 14), 41), append(run(15, 29), 42)
	for more, want := range []int{api.MaxCount - 1, api.MaxCount, api.MaxCount, api.MaxCount} {
		higher := append(run(30, 39), slices.Repeat([]int{-1}, more)...)
		q := p
		q.Prods = append(slices.Clone(p.Prods), to(40, sum...), to(41, high...), to(42, higher...))
		if got := facts.Shortest(q); got[40] != want || got[0] != api.MaxCount/2 || got[42] != 1<<10-1+more {
			t.Error(more, got)
		}
	}
	p.Prods = append(p.Prods, to(40, slices.Repeat([]int{0}, api.MaxSide)...), to(40, 0, 0), to(41, 40, 40, 40), to(41, 0))
	if got := facts.Shortest(p); got[40] != api.MaxCount || got[41] != api.MaxCount/2 {
		t.Error(got)
	}
}

// TestLongChains: what is known of the last nonterminal, or the first, comes to all.
func TestLongChains(t *testing.T) {
	const size = api.MaxProds
	there, back := powers(size, 1), plain.Grammar{Start: size - 1, Terms: []string{"x"}}
	for k := range size {
		back.Names = append(back.Names, strconv.Itoa(k))
		right := []int{-1}
		if k > 0 {
			right = []int{k - 1}
		}
		back.Prods = append(back.Prods, plain.Prod{Left: k, Right: right})
	}
	for _, p := range []plain.Grammar{there, back} {
		if slices.Contains(facts.Reachable(p), false) || slices.Contains(facts.Generating(p), false) || slices.Contains(facts.Loops(p), true) {
			t.Error("chain")
		}
		for k, first := range facts.First(p) {
			if facts.Shortest(p)[k] != 1 || !slices.Equal(first, []int{0}) {
				t.Error(k, first)
			}
		}
	}
	ring := powers(size, 1)
	ring.Prods[size-1].Right = []int{0}
	if slices.Contains(facts.Loops(ring), false) || slices.Contains(facts.Generating(ring), true) {
		t.Error("ring")
	}
	ring.Prods[size-1].Right = nil
	if slices.Contains(facts.Nullable(ring), false) || slices.Contains(facts.Loops(ring), true) {
		t.Error("chain to nothing")
	}
}

func TestUnsound(t *testing.T) {
	for what, p := range map[string]plain.Grammar{
		"nothing":      {},
		"no start":     {Start: 1, Names: []string{"a"}},
		"the least":    {Start: math.MinInt, Names: []string{"a"}},
		"a left":       {Names: []string{"a"}, Prods: []plain.Prod{to(1)}},
		"a right":      {Names: []string{"a"}, Prods: []plain.Prod{to(0, 1)}},
		"a terminal":   {Names: []string{"a"}, Prods: []plain.Prod{to(0, -1)}},
		"great ones":   {Names: []string{"a"}, Prods: []plain.Prod{to(0, math.MaxInt, math.MinInt)}},
		"falling ones": {Names: []string{"a", "b"}, Prods: []plain.Prod{to(1), to(0)}},
		"an empty one": {Names: []string{"a", ""}, Prods: []plain.Prod{to(0)}},
	} {
		if len(facts.Nullable(p)) != 0 || len(facts.Generating(p)) != 0 || len(facts.Reachable(p)) != 0 || len(facts.Loops(p)) != 0 {
			t.Error(what)
		}
		if len(facts.Shortest(p)) != 0 || len(facts.First(p)) != 0 {
			t.Error(what)
		}
	}
}

// TestOfText: the nonterminals that are made have their facts too.
func TestOfText(t *testing.T) {
	g, fault := syntax.Parse("a: 'x'* b?; b: a|'y'; c: ('z' c)+;")
	p, err := plain.Desugar(g)
	if fault.Code != api.OK || err != api.OK {
		t.Fatal(fault, err)
	}
	if got := names(p, facts.Nullable(p)); got != "a b a.1 a.2" {
		t.Error(got)
	}
	if got := names(p, facts.Generating(p)); got != "a b a.1 a.2" {
		t.Error(got)
	}
	if got := names(p, facts.Reachable(p)); got != "a b a.1 a.2" {
		t.Error(got)
	}
	if got := names(p, facts.Loops(p)); got != "a b a.2" {
		t.Error(got)
	}
	if got := facts.Shortest(p); !slices.Equal(got, []int{0, 0, -1, 0, 0, -1}) {
		t.Error(got)
	}
	if got := facts.First(p); !reflect.DeepEqual(got[:2], [][]int{{0, 1}, {0, 1}}) || len(got[2]) != 0 {
		t.Error(got)
	}
}

// TestNewMemory: nothing that is answered is the argument's or another answer's, and nothing of the argument is changed.
func TestNewMemory(t *testing.T) {
	text := "S -> A B; S -> A; A -> 'a' S; A ->; B -> 'b'; B -> 'a'"
	p, kept := grammar(t, text), grammar(t, text)
	for k := range p.Prods {
		p.Prods[k].Right = append(p.Prods[k].Right, 77)[:len(p.Prods[k].Right)]
	}
	for range 2 {
		first := facts.First(p)
		if want := [][]int{{0, 1}, {0}, {0, 1}}; !reflect.DeepEqual(first, want) {
			t.Fatal(first)
		}
		for a := range first {
			first[a] = append(first[a], 99)
			first[a][0] = 88
		}
		nullable, loops, reachable := facts.Nullable(p), facts.Loops(p), facts.Reachable(p)
		if !slices.Equal(nullable, []bool{true, true, false}) || !slices.Equal(loops, []bool{false, false, false}) {
			t.Fatal(nullable, loops)
		}
		clear(nullable)
		clear(loops)
		clear(reachable)
		clear(facts.Shortest(p))
	}
	for k, prod := range p.Prods {
		room := prod.Right[:cap(prod.Right)]
		if !slices.Equal(prod.Right, kept.Prods[k].Right) || room[len(prod.Right)] != 77 {
			t.Error("changed", k)
		}
	}
}
