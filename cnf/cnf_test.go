package cnf_test

import (
	"math"
	"reflect"
	"slices"
	"strconv"
	"strings"
	"testing"

	"primer/api"
	"primer/cnf"
	"primer/plain"
)

func to(left int, right ...int) plain.Prod {
	return plain.Prod{Left: left, Right: right}
}

// numbers of productions "0 -> 1 -1", parted by ";".
func prods(t *testing.T, text string) []plain.Prod {
	t.Helper()
	var l []plain.Prod
	for line := range strings.SplitSeq(text, ";") {
		var numbers []int
		for _, field := range strings.Fields(strings.Replace(line, "->", "", 1)) {
			n, err := strconv.Atoi(field)
			if err != nil {
				t.Fatal(text, err)
			}
			numbers = append(numbers, n)
		}
		if len(numbers) > 0 {
			l = append(l, to(numbers[0], numbers[1:]...))
		}
	}
	return l
}

func shown(l []plain.Prod) string {
	var lines []string
	for _, prod := range l {
		line := strconv.Itoa(prod.Left) + " ->"
		for _, symbol := range prod.Right {
			line += " " + strconv.Itoa(symbol)
		}
		lines = append(lines, line)
	}
	return strings.Join(lines, "; ")
}

// sound: a plain grammar of productions; it has as many names and terms as told.
func sound(t *testing.T, start, names, terms int, l []plain.Prod) plain.Grammar {
	t.Helper()
	p := plain.Grammar{Start: start, Prods: l}
	for k := range names {
		p.Names = append(p.Names, "n"+strconv.Itoa(k))
	}
	for k := range terms {
		p.Terms = append(p.Terms, strconv.Itoa(k))
	}
	if !plain.Sound(p) {
		t.Fatal("not sound: ", shown(l))
	}
	return p
}

func same(g, want cnf.Grammar) bool {
	h, w := g, want
	h.Prods, w.Prods = nil, nil
	return reflect.DeepEqual(h, w) && shown(g.Prods) == shown(want.Prods)
}

func TestOf(t *testing.T) {
	text := "0 -> 1 -1; 0 -> 1; 0 ->; 0 -> -2; 0 -> -1 0 0; 0 -> 1; 0 -> -2 3; 2 -> 3; 2 -> 0 9; 2 -> 0; 2 -> 0 -1"
	g, err := cnf.Of(sound(t, 2, 10, 2, prods(t, text)))
	want := cnf.Grammar{Start: 2, Count: 10, Terms: 2, Prods: prods(t, "0 ->; 0 -> -2; 0 -> -2 3; 0 -> -1 0 0; 0 -> 1; 0 -> 1 -1; 2 -> 0; 2 -> 0 -1; 2 -> 0 9; 2 -> 3")}
	if err != api.OK || !same(g, want) {
		t.Error(g, err)
	}
	g, err = cnf.Of(sound(t, 0, 1, 0, nil))
	if err != api.OK || !same(g, cnf.Grammar{Count: 1}) {
		t.Error(g, err)
	}
	g, err = cnf.Of(sound(t, 255, api.MaxProds, api.MaxProds, nil))
	if err != api.OK || !same(g, cnf.Grammar{Start: 255, Count: 256, Terms: 256}) {
		t.Error(g, err)
	}
}

func TestUnsound(t *testing.T) {
	for what, p := range map[string]plain.Grammar{
		"nothing":        {},
		"no start":       {Start: 1, Names: []string{"a"}},
		"a left":         {Names: []string{"a"}, Prods: []plain.Prod{to(1)}},
		"a terminal":     {Names: []string{"a"}, Prods: []plain.Prod{to(0, -1)}},
		"a great one":    {Names: []string{"a"}, Prods: []plain.Prod{to(0, math.MaxInt)}},
		"falling ones":   {Names: []string{"a", "b"}, Prods: []plain.Prod{to(1), to(0)}},
		"names alike":    {Names: []string{"a", "a"}},
		"a wide side":    {Names: []string{"a"}, Prods: []plain.Prod{to(0, make([]int, api.MaxSide+1)...)}},
		"many prods":     {Names: []string{"a"}, Prods: make([]plain.Prod, api.MaxProds+1)},
		"rules too many": {Names: []string{"a"}, Rules: 2},
	} {
		if g, err := cnf.Of(p); err != api.ErrArg || !reflect.DeepEqual(g, cnf.Grammar{}) {
			t.Error(what, g, err)
		}
		if g, err := cnf.Build(p); err != api.ErrArg || !reflect.DeepEqual(g, cnf.Grammar{}) {
			t.Error(what, g, err)
		}
	}
}

// A step of a grammar, in order, with what comes.
type step struct {
	start, count, terms int
	prods               string
	want                cnf.Grammar
	wantProds           string
}

func try(t *testing.T, name string, do func(g cnf.Grammar) cnf.Grammar, steps []step) {
	t.Helper()
	for _, s := range steps {
		s.want.Prods = prods(t, s.wantProds)
		for _, empty := range []bool{false, true} {
			want := s.want
			want.Empty = want.Empty || empty
			got := do(cnf.Grammar{Start: s.start, Count: s.count, Terms: s.terms, Empty: empty, Prods: prods(t, s.prods)})
			if !same(got, want) {
				t.Errorf("%s of %s: %v, %s", name, s.prods, got, shown(got.Prods))
			}
		}
	}
}

func TestStart(t *testing.T) {
	try(t, "Start", cnf.Start, []step{
		{0, 1, 0, "", cnf.Grammar{Start: 1, Count: 2}, "1 -> 0"},
		{1, 3, 2, "0 -> 1 0; 1 -> -2; 2 -> 0", cnf.Grammar{Start: 3, Count: 4, Terms: 2}, "0 -> 1 0; 1 -> -2; 2 -> 0; 3 -> 1"},
		{0, 1, 1, "0 ->; 0 -> -1 0", cnf.Grammar{Start: 1, Count: 2, Terms: 1}, "0 ->; 0 -> -1 0; 1 -> 0"},
	})
}

func TestTerm(t *testing.T) {
	try(t, "Term", cnf.Term, []step{
		{0, 1, 2, "0 ->; 0 -> -2; 0 -> -1", cnf.Grammar{Count: 1, Terms: 2}, "0 ->; 0 -> -2; 0 -> -1"},
		{0, 1, 3, "0 -> -3; 0 -> -2 0 -2; 0 -> -1; 0 -> 0", cnf.Grammar{Count: 2, Terms: 3}, "0 -> -3; 0 -> -1; 0 -> 0; 0 -> 1 0 1; 1 -> -2"},
		// by rising terminals, however they come
		{1, 2, 4, "0 -> -4 -2; 0 -> -1; 1 -> -1 -2; 1 -> 0 -4", cnf.Grammar{Start: 1, Count: 5, Terms: 4},
			"0 -> -1; 0 -> 4 3; 1 -> 0 4; 1 -> 2 3; 2 -> -1; 3 -> -2; 4 -> -4"},
		// a new one stands behind the others in a row: the order isn't the one that was
		{0, 3, 1, "0 -> -1 0; 0 -> 2 2; 1 -> 0 -1; 1 -> 0 2", cnf.Grammar{Count: 4, Terms: 1}, "0 -> 2 2; 0 -> 3 0; 1 -> 0 2; 1 -> 0 3; 3 -> -1"},
		{0, 1, 1, "0 -> -1 -1 -1 -1", cnf.Grammar{Count: 2, Terms: 1}, "0 -> 1 1 1 1; 1 -> -1"},
		{0, 0, 0, "", cnf.Grammar{}, ""},
	})
}

func TestBin(t *testing.T) {
	try(t, "Bin", cnf.Bin, []step{
		{0, 1, 1, "0 ->; 0 -> -1 0; 0 -> 0; 0 -> 0 0", cnf.Grammar{Count: 1, Terms: 1}, "0 ->; 0 -> -1 0; 0 -> 0; 0 -> 0 0"},
		{0, 1, 0, "0 -> 0 0 0", cnf.Grammar{Count: 2}, "0 -> 0 1; 1 -> 0 0"},
		{1, 3, 2, "0 -> 0 1 2 0 -2; 0 -> 1 2 2; 2 -> -1 0 0 1", cnf.Grammar{Start: 1, Count: 9, Terms: 2},
			"0 -> 0 3; 0 -> 1 6; 2 -> -1 7; 3 -> 1 4; 4 -> 2 5; 5 -> 0 -2; 6 -> 2 2; 7 -> 0 8; 8 -> 0 1"},
		// of the same three symbols each has new ones of its own
		{0, 2, 0, "0 -> 0 0 0; 0 -> 0 0 1; 1 -> 0 0 0", cnf.Grammar{Count: 5}, "0 -> 0 2; 0 -> 0 3; 1 -> 0 4; 2 -> 0 0; 3 -> 0 1; 4 -> 0 0"},
	})
}

func TestDel(t *testing.T) {
	try(t, "Del", cnf.Del, []step{
		{0, 1, 0, "", cnf.Grammar{Count: 1}, ""},
		{0, 1, 0, "0 ->", cnf.Grammar{Count: 1, Empty: true}, ""},
		{0, 2, 1, "0 -> -1; 1 ->", cnf.Grammar{Count: 2, Terms: 1}, "0 -> -1"},
		{0, 2, 1, "0 -> 1 -1 1; 1 ->; 1 -> -1", cnf.Grammar{Count: 2, Terms: 1}, "0 -> -1; 0 -> -1 1; 0 -> 1 -1; 0 -> 1 -1 1; 1 -> -1"},
		{0, 2, 0, "0 -> 1 1; 1 ->", cnf.Grammar{Count: 2, Empty: true}, "0 -> 1; 0 -> 1 1"},
		{0, 3, 1, "0 -> 1 2; 1 -> 2 2; 2 ->; 2 -> -1", cnf.Grammar{Count: 3, Terms: 1, Empty: true}, "0 -> 1; 0 -> 1 2; 0 -> 2; 1 -> 2; 1 -> 2 2; 2 -> -1"},
		// who is nullable only by who comes behind
		{2, 3, 1, "0 -> 1; 1 ->; 1 -> 2 0; 2 -> 0 1 -1", cnf.Grammar{Start: 2, Count: 3, Terms: 1},
			"0 -> 1; 1 -> 2; 1 -> 2 0; 2 -> -1; 2 -> 0 -1; 2 -> 0 1 -1; 2 -> 1 -1"},
		// who isn't: it comes to itself alone
		{0, 2, 0, "0 -> 0; 0 -> 1 0; 1 ->; 1 -> 0", cnf.Grammar{Count: 2}, "0 -> 0; 0 -> 1 0; 1 -> 0"},
		{0, 3, 0, "0 -> 1 2 1; 1 ->; 2 -> 2", cnf.Grammar{Count: 3}, "0 -> 1 2; 0 -> 1 2 1; 0 -> 2; 0 -> 2 1; 2 -> 2"},
		{0, 2, 0, "0 -> 1 1 1; 1 ->", cnf.Grammar{Count: 2, Empty: true}, "0 -> 1; 0 -> 1 1; 0 -> 1 1 1"},
	})
}

// TestDelOfManySymbols: of sixteen some are left out, of seventeen none.
func TestDelOfManySymbols(t *testing.T) {
	row := func(n int) []int {
		var l []int
		for k := range n {
			l = append(l, k+1)
		}
		return l
	}
	g := cnf.Grammar{Count: 20, Prods: []plain.Prod{to(0, row(16)...)}}
	for k := range 17 {
		g.Prods = append(g.Prods, to(k+1))
	}
	got := cnf.Del(g)
	if len(got.Prods) != 1<<16-1 || !got.Empty {
		t.Error(len(got.Prods), got.Empty)
	}
	g.Prods[0] = to(0, row(17)...)
	if got := cnf.Del(g); !same(got, cnf.Grammar{Count: 20, Empty: true, Prods: []plain.Prod{to(0, row(17)...)}}) {
		t.Error(got)
	}
	// all of so many symbols that stand for nothing
	g = cnf.Grammar{Count: 2, Prods: []plain.Prod{to(0, slices.Repeat([]int{1}, 16)...), to(0, slices.Repeat([]int{1}, 18)...), to(1)}}
	want := cnf.Grammar{Count: 2, Empty: true}
	for n := range 16 {
		want.Prods = append(want.Prods, to(0, slices.Repeat([]int{1}, n+1)...))
	}
	want.Prods = append(want.Prods, g.Prods[1])
	if got := cnf.Del(g); !same(got, want) {
		t.Error(shown(got.Prods))
	}
}

func TestUnit(t *testing.T) {
	unit := func(g cnf.Grammar) cnf.Grammar {
		made, err := cnf.Unit(g)
		if err != api.OK {
			t.Error(g, err)
		}
		return made
	}
	try(t, "Unit", unit, []step{
		{0, 1, 0, "", cnf.Grammar{Count: 1}, ""},
		{0, 1, 1, "0 -> -1; 0 -> 0; 0 -> 0 0", cnf.Grammar{Count: 1, Terms: 1}, "0 -> -1; 0 -> 0 0"},
		{1, 3, 2, "0 -> -1; 1 -> 0; 1 -> 2; 2 -> -2; 2 -> 0 1", cnf.Grammar{Start: 1, Count: 3, Terms: 2}, "0 -> -1; 1 -> -2; 1 -> -1; 1 -> 0 1; 2 -> -2; 2 -> 0 1"},
		// by several units, in a ring too; one is come to in two ways, and two have the same
		{0, 4, 1, "0 -> 1; 1 -> 2; 2 -> 3; 3 -> -1", cnf.Grammar{Count: 4, Terms: 1}, "0 -> -1; 1 -> -1; 2 -> -1; 3 -> -1"},
		{0, 4, 1, "0 -> 1; 1 -> 2; 2 -> 0; 2 -> 3 3; 3 -> -1", cnf.Grammar{Count: 4, Terms: 1}, "0 -> 3 3; 1 -> 3 3; 2 -> 3 3; 3 -> -1"},
		{0, 4, 1, "0 -> 1; 0 -> 2; 1 -> 3; 2 -> 3; 3 -> -1", cnf.Grammar{Count: 4, Terms: 1}, "0 -> -1; 1 -> -1; 2 -> -1; 3 -> -1"},
		{0, 3, 1, "0 -> 1; 0 -> 2; 1 -> -1; 2 -> -1", cnf.Grammar{Count: 3, Terms: 1}, "0 -> -1; 1 -> -1; 2 -> -1"},
		{0, 3, 0, "0 -> 1; 1 -> 2; 2 -> 1", cnf.Grammar{Count: 3}, ""},
		// what isn't a unit stays, of whatever length
		{0, 2, 1, "0 -> 1; 1 ->; 1 -> -1 0 1", cnf.Grammar{Count: 2, Terms: 1}, "0 ->; 0 -> -1 0 1; 1 ->; 1 -> -1 0 1"},
	})
}

// ring of nonterminals that come to each other by units, of which the first one has so many productions that are none; and one beside them.
func ring(names, full int, more ...plain.Prod) cnf.Grammar {
	g := cnf.Grammar{Count: names + 1, Terms: full}
	for t := range full {
		g.Prods = append(g.Prods, to(0, t-full))
	}
	for k := range names {
		g.Prods = append(g.Prods, to(k, (k+1)%names))
	}
	g.Prods = append(g.Prods, more...)
	return g
}

func TestQuota(t *testing.T) {
	const most = 65536
	for _, c := range []struct{ names, full int }{{256, 256}, {most, 1}, {1, most}, {2, most / 2}} {
		fitting := map[string]cnf.Grammar{
			"as many":   ring(c.names, c.full),
			"one twice": ring(c.names, c.full, to(c.names-1, -1)),
			"a unit":    ring(c.names, c.full, to(c.names, c.names)),
		}
		for what, g := range fitting {
			if made, err := cnf.Unit(g); err != api.OK || len(made.Prods) != most || made.Count != c.names+1 {
				t.Error(c, what, len(made.Prods), err)
			}
		}
		for what, g := range map[string]cnf.Grammar{
			"one beside": ring(c.names, c.full, to(c.names, 0, 0)),
			"the same":   ring(c.names, c.full, to(c.names, -1)),
			"one of all": ring(c.names, c.full, to(c.names-1, 0, 0)),
			"of another": ring(c.names, c.full, to(c.names, 0)),
		} {
			if made, err := cnf.Unit(g); err != api.ErrQuota || !reflect.DeepEqual(made, cnf.Grammar{}) {
				t.Error(c, what, len(made.Prods), err)
			}
		}
	}
	if made, err := cnf.Unit(ring(1<<20, 0)); err != api.OK || len(made.Prods) != 0 {
		t.Error(len(made.Prods), err)
	}
	if made, err := cnf.Unit(ring(1<<17, 1<<17)); err != api.ErrQuota || len(made.Prods) != 0 {
		t.Error(len(made.Prods), err)
	}
}

// TestBuildQuota: all nonterminals, those too into which the productions are cut, may be empty, and come to one another.
func TestBuildQuota(t *testing.T) {
	for names, want := range map[int]api.Errno{5: api.OK, 200: api.ErrQuota} {
		p := sound(t, 0, names, 0, nil)
		for k := range names {
			p.Prods = append(p.Prods, to(k, slices.Repeat([]int{(k + 1) % names}, api.MaxSide)...))
		}
		p.Prods = append(p.Prods, to(names-1))
		g, err := cnf.Build(p)
		if err != want || cnf.Normal(g) != (want == api.OK) || want != api.OK && !reflect.DeepEqual(g, cnf.Grammar{}) {
			t.Error(names, len(g.Prods), err)
		}
	}
}

func TestBuild(t *testing.T) {
	for _, c := range []struct {
		start, names, terms int
		prods               string
		want                cnf.Grammar
		wantProds           string
	}{
		{0, 1, 2, "0 -> -1 0 -2; 0 ->", cnf.Grammar{Start: 1, Count: 5, Terms: 2, Empty: true},
			"0 -> 2 4; 1 -> 2 4; 2 -> -1; 3 -> -2; 4 -> -2; 4 -> 0 3"},
		{0, 1, 1, "0 -> 0 0; 0 -> -1", cnf.Grammar{Start: 1, Count: 2, Terms: 1}, "0 -> -1; 0 -> 0 0; 1 -> -1; 1 -> 0 0"},
		{0, 1, 0, "0 ->", cnf.Grammar{Start: 1, Count: 2, Empty: true}, ""},
		{1, 2, 1, "0 -> 0", cnf.Grammar{Start: 2, Count: 3, Terms: 1}, ""},
		{1, 2, 1, "0 -> -1; 1 -> 0", cnf.Grammar{Start: 2, Count: 3, Terms: 1}, "0 -> -1; 1 -> -1; 2 -> -1"},
		{0, 1, 3, "0 -> -1 -3", cnf.Grammar{Start: 1, Count: 4, Terms: 3}, "0 -> 2 3; 1 -> 2 3; 2 -> -1; 3 -> -3"},
	} {
		c.want.Prods = prods(t, c.wantProds)
		if g, err := cnf.Build(sound(t, c.start, c.names, c.terms, prods(t, c.prods))); err != api.OK || !same(g, c.want) || !cnf.Normal(g) {
			t.Errorf("%s: %v, %s", c.prods, g, shown(g.Prods))
		}
	}
}

func TestNormal(t *testing.T) {
	for _, c := range []struct {
		start, count, terms int
		prods               string
		want                bool
	}{
		{0, 1, 0, "", true}, {2, 3, 5, "", true},
		{0, 0, 0, "", false}, {1, 1, 0, "", false}, {-1, 1, 0, "", false}, {0, -1, 0, "", false}, {-2, -1, 0, "", false}, {0, 1, -1, "", false},
		{math.MaxInt - 1, math.MaxInt, math.MaxInt, "5 -> -5", true}, {math.MinInt, math.MaxInt, 1, "", false}, {0, 1, math.MinInt, "", false},
		{0, 2, 2, "0 -> -2; 0 -> -1; 0 -> 0 0; 0 -> 0 1; 0 -> 1 0; 1 -> -2; 1 -> 0 0", true},
		// symbols that aren't there
		{0, 2, 2, "2 -> -1", false}, {0, 2, 2, "-1 -> -1", false}, {0, 2, 2, "0 -> -3", false}, {0, 2, 2, "0 -> 0 2", false}, {0, 2, 2, "0 -> 2 0", false},
		{0, 2, 0, "0 -> -1", false}, {0, 2, 2, "0 -> -9223372036854775808", false}, {0, 2, 2, "0 -> 0 9223372036854775807", false},
		{0, 1, math.MaxInt, "0 -> -9223372036854775808", false}, {0, 1, math.MaxInt, "0 -> -9223372036854775807", true},
		// sides of another kind
		{0, 2, 2, "0 ->", false}, {0, 2, 2, "0 -> 1", false}, {0, 2, 2, "0 -> 0", false}, {0, 2, 2, "0 -> -1 0", false}, {0, 2, 2, "0 -> 0 -1", false},
		{0, 2, 2, "0 -> -1 -1", false}, {0, 2, 2, "0 -> 0 0 0", false}, {0, 2, 2, "0 -> -1; 1 -> 1 1 1", false},
		// not in order
		{0, 2, 2, "0 -> -1; 0 -> -2", false}, {0, 2, 2, "0 -> 0 0; 0 -> -1", false}, {0, 2, 2, "0 -> 0 1; 0 -> 0 0", false}, {0, 2, 2, "0 -> 1 0; 0 -> 0 1", false},
		{0, 2, 2, "1 -> -1; 0 -> -1", false}, {0, 2, 2, "0 -> -1; 0 -> -1", false}, {0, 2, 2, "0 -> -1; 1 -> 0 0; 1 -> 0 0", false},
	} {
		for _, empty := range []bool{false, true} {
			g := cnf.Grammar{Start: c.start, Count: c.count, Terms: c.terms, Empty: empty, Prods: prods(t, c.prods)}
			if got := cnf.Normal(g); got != c.want {
				t.Error(g, got)
			}
		}
	}
}

// TestByHand: what no Of tells is put in order too; and whatever its numbers are, each call ends.
func TestByHand(t *testing.T) {
	mixed := "2 -> 0; 1 -> 0 0 0; 0 -> 1 -2 1; 0 -> -1 1; 2 -> 0; 0 -> -1 1; 0 -> -1"
	g := func() cnf.Grammar { return cnf.Grammar{Count: 3, Terms: 2, Prods: prods(t, mixed)} }
	unit, _ := cnf.Unit(g())
	for name, c := range map[string]struct {
		got  cnf.Grammar
		want string
	}{
		"Start": {cnf.Start(g()), "0 -> -1; 0 -> -1 1; 0 -> 1 -2 1; 1 -> 0 0 0; 2 -> 0; 3 -> 0"},
		"Term":  {cnf.Term(g()), "0 -> -1; 0 -> 1 4 1; 0 -> 3 1; 1 -> 0 0 0; 2 -> 0; 3 -> -1; 4 -> -2"},
		"Bin":   {cnf.Bin(g()), "0 -> -1; 0 -> -1 1; 0 -> 1 3; 1 -> 0 4; 2 -> 0; 3 -> -2 1; 4 -> 0 0"},
		"Del":   {cnf.Del(g()), "0 -> -1; 0 -> -1 1; 0 -> 1 -2 1; 1 -> 0 0 0; 2 -> 0"},
		"Unit":  {unit, "0 -> -1; 0 -> -1 1; 0 -> 1 -2 1; 1 -> 0 0 0; 2 -> -1; 2 -> -1 1; 2 -> 1 -2 1"},
	} {
		if got := shown(c.got.Prods); got != c.want {
			t.Errorf("%s: %s", name, got)
		}
	}
	for _, n := range []int{math.MinInt, -1, 0, 5, math.MaxInt} {
		g := cnf.Grammar{Start: n, Count: n, Terms: -n, Prods: []plain.Prod{to(n, n), to(-n, n, -n, n, 7), to(n), to(7, make([]int, 100000)...), to(n, -n)}}
		cnf.Start(g)
		cnf.Term(g)
		cnf.Bin(g)
		cnf.Del(g)
		cnf.Normal(g)
		if _, err := cnf.Unit(g); err != api.OK {
			t.Error(n, err)
		}
	}
}

// TestLongChains: what is known of the last nonterminal comes to the first one, in whichever order they stand.
func TestLongChains(t *testing.T) {
	const size = 200000
	there, back := cnf.Grammar{Count: size, Terms: 1}, cnf.Grammar{Count: size, Terms: 1}
	for k := range size - 1 {
		there.Prods = append(there.Prods, to(k, k+1, k+1))
		back.Prods = append(back.Prods, to(k+1, k, k))
	}
	there.Prods = append(there.Prods, to(size-1))
	back.Prods = slices.Insert(back.Prods, 0, to(0))
	back.Start = size - 1
	for _, g := range []cnf.Grammar{there, back} {
		if got := cnf.Del(g); !got.Empty || len(got.Prods) != 2*(size-1) {
			t.Error(got.Empty, len(got.Prods))
		}
	}
}

// TestNewMemory: an answer shares its lists with nobody, nor two lists of it with one another; what is handed in stays, the room behind it too.
func TestNewMemory(t *testing.T) {
	text := "0 ->; 0 -> -2 1 0 -1; 0 -> -1; 0 -> 1; 0 -> 1 1; 1 -> -1 -1; 1 -> 0; 1 -> 0 1 0; 2 -> 0 0 0"
	of := func(g cnf.Grammar) cnf.Grammar {
		p := sound(t, 0, 3, 2, nil)
		p.Prods = g.Prods
		made, _ := cnf.Of(p)
		return made
	}
	build := func(g cnf.Grammar) cnf.Grammar {
		p := sound(t, 0, 3, 2, nil)
		p.Prods = g.Prods
		made, _ := cnf.Build(p)
		return made
	}
	unit := func(g cnf.Grammar) cnf.Grammar {
		made, _ := cnf.Unit(g)
		return made
	}
	wide := text + "; 2 ->" + strings.Repeat(" 1", 20)
	for name, do := range map[string]func(g cnf.Grammar) cnf.Grammar{
		"Of": of, "Start": cnf.Start, "Term": cnf.Term, "Bin": cnf.Bin, "Del": cnf.Del, "Unit": unit, "Build": build,
	} {
		text := text
		if name != "Of" && name != "Build" {
			text = wide
		}
		g := cnf.Grammar{Count: 3, Terms: 2, Prods: append(prods(t, text), to(9, 9))}
		g.Prods = g.Prods[:len(g.Prods)-1]
		for k := range g.Prods {
			g.Prods[k].Right = append(g.Prods[k].Right, 77)[:len(g.Prods[k].Right)]
		}
		again, made := do(g), do(g)
		want := shown(again.Prods)
		for k := range made.Prods {
			right := made.Prods[k].Right
			for at := range right[:cap(right)] { // the room behind it too
				right[:cap(right)][at] = 99
			}
			if shown(made.Prods[k+1:]) != shown(again.Prods[k+1:]) {
				t.Fatal(name, "shares with itself")
			}
		}
		for _, prod := range made.Prods[len(made.Prods):cap(made.Prods)] {
			if len(prod.Right) > 0 {
				t.Error(name, "leaves something behind")
			}
		}
		if shown(again.Prods) != want || shown(g.Prods) != text || shown(g.Prods[:len(g.Prods)+1][len(g.Prods):]) != "9 -> 9" {
			t.Error(name, "shares")
		}
		for _, prod := range g.Prods {
			if prod.Right[:len(prod.Right)+1][len(prod.Right)] != 77 {
				t.Error(name, "writes behind a list")
			}
		}
	}
}
