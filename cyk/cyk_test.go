package cyk_test

import (
	"math"
	"reflect"
	"slices"
	"strconv"
	"strings"
	"testing"

	"primer/api"
	"primer/cnf"
	"primer/cyk"
	"primer/plain"
	"primer/syntax"
)

func to(left int, right ...int) plain.Prod {
	return plain.Prod{Left: left, Right: right}
}

// normal: the normal form of a grammar's text, with its terminals.
func normal(t *testing.T, text string) (cnf.Grammar, plain.Grammar) {
	t.Helper()
	g, fault := syntax.Parse(text)
	if fault.Code != api.OK {
		t.Fatal(text, fault)
	}
	p, err := plain.Desugar(g)
	if err != api.OK {
		t.Fatal(text, err)
	}
	n, err := cnf.Build(p)
	if err != api.OK {
		t.Fatal(text, err)
	}
	return n, p
}

// word of terminals, each of one byte.
func word(t *testing.T, p plain.Grammar, text string) []int {
	t.Helper()
	l, ok := plain.Word(p, strings.Split(text, "")[:len(text)])
	if !ok {
		t.Fatal(text)
	}
	return l
}

// pairs: S -> S S; S -> 'x'.
func pairs() cnf.Grammar {
	return cnf.Grammar{Count: 1, Terms: 1, Prods: []plain.Prod{to(0, -1), to(0, 0, 0)}}
}

func TestNone(t *testing.T) {
	for what, g := range map[string]cnf.Grammar{
		"nothing":           {},
		"no start":          {Start: 1, Count: 1, Terms: 1, Prods: pairs().Prods},
		"a unit":            {Count: 1, Terms: 1, Prods: []plain.Prod{to(0, 0)}},
		"an empty side":     {Count: 1, Terms: 1, Prods: []plain.Prod{to(0)}},
		"three symbols":     {Count: 1, Terms: 1, Prods: []plain.Prod{to(0, 0, 0, 0)}},
		"a terminal of two": {Count: 1, Terms: 1, Prods: []plain.Prod{to(0, -1, 0)}},
		"no such terminal":  {Count: 1, Terms: 1, Prods: []plain.Prod{to(0, -2)}},
		"out of order":      {Count: 1, Terms: 1, Prods: []plain.Prod{to(0, 0, 0), to(0, -1)}},
		"one twice":         {Count: 1, Terms: 1, Prods: []plain.Prod{to(0, -1), to(0, -1)}},
		"no terminals":      {Count: 1, Terms: -1},
	} {
		for _, empty := range []bool{false, true} {
			g.Empty = empty
			for _, l := range [][]int{nil, {}, {0}} {
				if c := cyk.Make(g, l); c != nil {
					t.Error(what, l)
				}
			}
		}
	}
	two := cnf.Grammar{Count: 1, Terms: 2, Prods: []plain.Prod{to(0, -2), to(0, -1), to(0, 0, 0)}}
	for _, l := range [][]int{{-1}, {2}, {0, 1, 2}, {0, -1, 1}, {math.MinInt}, {math.MaxInt}, make([]int, api.MaxWord+1)} {
		if c := cyk.Make(two, l); c != nil {
			t.Error(l)
		}
	}
	for _, l := range [][]int{nil, {1}, {0, 1, 1}, make([]int, api.MaxWord)} {
		if c := cyk.Make(two, l); c == nil || c.Yes() != (len(l) > 0) {
			t.Error(l)
		}
	}
	if c := cyk.Make(cnf.Grammar{Count: 1}, []int{0}); c != nil {
		t.Error("a grammar without terminals")
	}
}

func TestNilChart(t *testing.T) {
	var c *cyk.Chart
	if len(c.Cell(0, 1)) != 0 || c.Has(0, 0, 1) || c.Yes() || c.Trees() != 0 || c.Ambiguous() {
		t.Error("of a nil chart")
	}
}

func TestEmptyWord(t *testing.T) {
	for _, empty := range []bool{false, true} {
		g := pairs()
		g.Empty = empty
		want := 0
		if empty {
			want = 1
		}
		c := cyk.Make(g, nil)
		if c.Yes() != empty || c.Trees() != want || c.Ambiguous() {
			t.Error(empty, c.Yes(), c.Trees(), c.Ambiguous())
		}
		for from := -1; from < 3; from++ {
			for end := -1; end < 3; end++ {
				if len(c.Cell(from, end)) > 0 || c.Has(0, from, end) {
					t.Error("a part of the empty word", from, end)
				}
			}
		}
		// whether there is the empty word matters to no other
		if c := cyk.Make(g, []int{0}); c.Trees() != 1 || len(c.Cell(0, 0)) > 0 || c.Has(0, 0, 0) || c.Has(0, 1, 1) {
			t.Error(empty, c.Trees())
		}
		if c := cyk.Make(cnf.Grammar{Count: 1, Terms: 1, Empty: empty}, []int{0}); c.Yes() || c.Trees() != 0 {
			t.Error(empty, c.Trees())
		}
	}
}

// TestPairs: of so many terminals there are as many trees as there are ways to put brackets.
func TestPairs(t *testing.T) {
	trees := []int{0, 1}
	for n := 2; n <= api.MaxWord; n++ {
		sum := 0
		for k := 1; k < n && sum < api.MaxCount; k++ {
			if x, y := trees[k], trees[n-k]; x > api.MaxCount/y {
				sum = api.MaxCount
			} else {
				sum += x * y
			}
		}
		trees = append(trees, min(sum, api.MaxCount))
	}
	if trees[3] != 2 || trees[4] != 5 || trees[24] != 343059613650 || trees[25] != api.MaxCount {
		t.Fatal(trees)
	}
	for n, want := range trees {
		c := cyk.Make(pairs(), make([]int, n))
		if c.Trees() != want || c.Yes() != (n > 0) || c.Ambiguous() != (n > 2) {
			t.Error(n, c.Trees(), want, c.Yes(), c.Ambiguous())
		}
	}
}

// TestMost: counts about the greatest one that is told, and those that are put together of such.
func TestMost(t *testing.T) {
	// S -> B S, C S, x; B -> x; C -> x: of each further terminal twice as many
	twice := []plain.Prod{to(0, -1), to(0, 1, 0), to(0, 2, 0), to(1, -1), to(2, -1)}
	for n, want := range map[int]int{1: 1, 2: 2, 3: 4, 40: 1 << 39, 41: 1 << 40, 42: api.MaxCount, 64: api.MaxCount} {
		if c := cyk.Make(cnf.Grammar{Count: 3, Terms: 1, Prods: twice}, make([]int, n)); c.Trees() != want {
			t.Error(n, c.Trees(), want)
		}
	}
	// with one tree more, of another nonterminal: that may be one too many
	for n, want := range map[int]int{40: 1<<39 + 1, 41: api.MaxCount, 42: api.MaxCount} {
		l := slices.Concat(twice, []plain.Prod{to(3, 4, 3), to(3, 4, 4), to(4, -1), to(5, 0, 6), to(5, 3, 6), to(6, -2)})
		c := cyk.Make(cnf.Grammar{Start: 5, Count: 7, Terms: 2, Prods: l}, append(make([]int, n), 1))
		if c.Trees() != want {
			t.Error(n, c.Trees(), want)
		}
	}
	// many times many: of two parts that stand about another terminal
	l := append(pairs().Prods, to(1, 0, 2), to(2, 3, 0), to(3, -2))
	for n, want := range map[int]int{1: 1, 4: 25, 12: 58786 * 58786, 15: api.MaxCount, 25: api.MaxCount, 31: api.MaxCount} {
		side := make([]int, n)
		c := cyk.Make(cnf.Grammar{Start: 1, Count: 4, Terms: 2, Prods: l}, slices.Concat(side, []int{1}, side))
		if c.Trees() != want {
			t.Error(n, c.Trees(), want)
		}
	}
	// many times none is none, and many times one is many
	l = slices.Concat(twice, []plain.Prod{to(3, 0, 4), to(4, -2), to(5, 0, 6), to(6, -3)})
	for start, want := range map[int]int{3: api.MaxCount, 5: 0} {
		c := cyk.Make(cnf.Grammar{Start: start, Count: 7, Terms: 3, Prods: l}, append(make([]int, 60), 1))
		if c.Trees() != want || c.Yes() != (want > 0) || c.Has(start, 0, 61) != (want > 0) {
			t.Error(start, c.Trees())
		}
	}
}

func TestCells(t *testing.T) {
	g, p := normal(t, "S: 'x' S 'y'|'z';")
	text := "xxzyy"
	c := cyk.Make(g, word(t, p, text))
	want := map[[2]int]bool{{2, 3}: true, {1, 4}: true, {0, 5}: true}
	for from := range 7 {
		for end := range 7 {
			part := [2]int{from, end}
			if c.Has(0, from, end) != want[part] || c.Has(g.Start, from, end) != want[part] {
				t.Error(from, end, c.Has(0, from, end))
			}
			cell := c.Cell(from, end)
			for a := range g.Count {
				if c.Has(a, from, end) != slices.Contains(cell, a) {
					t.Error(a, from, end, cell)
				}
			}
			if !slices.IsSorted(cell) || len(slices.Compact(slices.Clone(cell))) != len(cell) {
				t.Error(from, end, cell)
			}
		}
	}
	if !c.Yes() || c.Trees() != 1 || c.Ambiguous() {
		t.Error(c.Trees())
	}
	for _, part := range [][2]int{{-1, 1}, {-1, 5}, {0, 6}, {5, 6}, {3, 3}, {3, 2}, {5, 0}, {math.MinInt, math.MaxInt}, {0, math.MaxInt}, {math.MinInt, 1}, {math.MaxInt, math.MinInt}} {
		for _, a := range []int{0, g.Start, -1, math.MaxInt, math.MinInt} {
			if len(c.Cell(part[0], part[1])) > 0 || c.Has(a, part[0], part[1]) {
				t.Error(part, a)
			}
		}
	}
	for _, a := range []int{-1, g.Count, math.MaxInt, math.MinInt} {
		if c.Has(a, 0, 5) {
			t.Error(a)
		}
	}
}

// TestRising: a cell with many, who come in another order.
func TestRising(t *testing.T) {
	const most = 50
	g := cnf.Grammar{Count: most, Terms: 1}
	for a := range most {
		if a%7 != 3 {
			g.Prods = append(g.Prods, to(a, -1))
		}
		g.Prods = append(g.Prods, to(a, most-1-a, (a*13)%most))
	}
	c := cyk.Make(g, make([]int, 3))
	var one []int
	for a := range most {
		if a%7 != 3 {
			one = append(one, a)
		}
	}
	if !slices.Equal(c.Cell(1, 2), one) || !slices.IsSorted(c.Cell(0, 3)) || len(c.Cell(0, 3)) < most/2 {
		t.Error(c.Cell(1, 2), c.Cell(0, 3))
	}
}

func TestWords(t *testing.T) {
	for text, words := range map[string]string{
		"S: 'x'* 'y'|;":               "-:1 x:0 y:1 xy:1 xxxxxxy:1 yx:0 xyy:0",
		"S: 'x' S 'y'|S S|;":          "-:1 xy:1 yx:0 xyxy:1 xxyy:1 xxyxyy:1 xyxyxy:2 xyxyxyxy:5 x:0 xyx:0",
		"S: a|b; a: 'x'; b: 'x'|'y';": "-:0 x:1 y:1 xy:0",
		"S: S;":                       "-:0",
		"S: 'x' a; a: a;":             "-:0 x:0 xx:0",
		"S: e '+' e; e: e '+' e|'n';": "n:0 n+n:1 n+n+n:2 n+n+n+n:5 n+:0 +n:0",
	} {
		g, p := normal(t, text)
		for _, field := range strings.Fields(words) {
			w, number, _ := strings.Cut(field, ":")
			want, err := strconv.Atoi(number)
			if err != nil {
				t.Fatal(field)
			}
			c := cyk.Make(g, word(t, p, strings.Trim(w, "-")))
			if c.Trees() != want || c.Yes() != (want > 0) || c.Ambiguous() != (want > 1) {
				t.Error(text, field, c.Trees())
			}
		}
	}
}

// TestGreatNumbers: a grammar made by hand with numbers as great as may be.
func TestGreatNumbers(t *testing.T) {
	const last = math.MaxInt - 1
	g := cnf.Grammar{Start: last, Count: math.MaxInt, Terms: math.MaxInt, Prods: []plain.Prod{to(5, -1), to(last, -math.MaxInt), to(last, 5, last)}}
	c := cyk.Make(g, []int{0, 0, last})
	if c == nil || c.Trees() != 1 || !slices.Equal(c.Cell(0, 3), []int{last}) || !slices.Equal(c.Cell(0, 1), []int{5}) || !c.Has(last, 1, 3) {
		t.Error(c)
	}
	if c := cyk.Make(g, []int{math.MaxInt}); c != nil {
		t.Error("a terminal that isn't there")
	}
}

// TestWide: many nonterminals and productions, all of which derive every part.
func TestWide(t *testing.T) {
	g := cnf.Grammar{Count: 60, Terms: 1}
	for a := range g.Count {
		g.Prods = append(g.Prods, to(a, -1))
		for b := range g.Count {
			g.Prods = append(g.Prods, to(a, b, (a+b)%g.Count))
		}
	}
	c := cyk.Make(g, make([]int, api.MaxWord))
	if c.Trees() != api.MaxCount || len(c.Cell(0, api.MaxWord)) != g.Count || len(c.Cell(9, 30)) != g.Count {
		t.Error(c.Trees())
	}
}

// TestNewMemory: a chart keeps nothing of what it was made of, and hands out nothing of its own.
func TestNewMemory(t *testing.T) {
	g := cnf.Grammar{Count: 2, Terms: 2, Prods: []plain.Prod{to(0, -2), to(0, -1), to(0, 0, 0), to(0, 0, 1), to(1, -1), to(9, 9)}}
	g.Prods = g.Prods[:5]
	l := []int{0, 1, 0, 0, 77}[:4]
	c := cyk.Make(g, l)
	if !slices.Equal(l[:5], []int{0, 1, 0, 0, 77}) || !reflect.DeepEqual(g.Prods[:6], []plain.Prod{to(0, -2), to(0, -1), to(0, 0, 0), to(0, 0, 1), to(1, -1), to(9, 9)}) {
		t.Fatal("changed", l[:5], g.Prods[:6])
	}
	trees, first, all := c.Trees(), c.Cell(0, 1), c.Cell(0, 4)
	if !slices.Equal(first, []int{0, 1}) || !slices.Equal(all, []int{0}) || trees < 2 {
		t.Fatal(trees, first, all)
	}
	for k := range g.Prods {
		g.Prods[k].Left = 1
		g.Prods[k].Right[0] = -2
	}
	clear(l)
	for _, cell := range [][]int{first, all} {
		clear(cell[:cap(cell)])
	}
	if c.Trees() != trees || !slices.Equal(c.Cell(0, 1), []int{0, 1}) || !slices.Equal(c.Cell(0, 4), []int{0}) || c.Has(1, 1, 2) {
		t.Error("kept", c.Trees(), c.Cell(0, 1), c.Cell(0, 4))
	}
}
