package cnf_test

import (
	"maps"
	"math/rand/v2"
	"slices"
	"strconv"
	"testing"

	"primer/api"
	"primer/cnf"
	"primer/lang"
	"primer/plain"
)

func random(t *testing.T, r *rand.Rand) plain.Grammar {
	names, terms := 1+r.IntN(4), 1+r.IntN(2)
	var l []plain.Prod
	for left := range names {
		for range r.IntN(4) {
			prod := to(left)
			for range r.IntN(5) {
				prod.Right = append(prod.Right, r.IntN(names+terms)-terms)
			}
			l = append(l, prod)
		}
	}
	return sound(t, r.IntN(names), names, terms, l)
}

// A set of productions, by what they are shown as.
type set map[string]plain.Prod

func (s set) add(prod plain.Prod) {
	s[shown([]plain.Prod{prod})] = prod
}

func setOf(l []plain.Prod) set {
	s := set{}
	for _, prod := range l {
		s.add(prod)
	}
	return s
}

// less: does a production come ahead of another one?
func less(a, b plain.Prod) bool {
	if a.Left != b.Left {
		return a.Left < b.Left
	}
	for k := range a.Right {
		if k == len(b.Right) {
			return false
		}
		if a.Right[k] != b.Right[k] {
			return a.Right[k] < b.Right[k]
		}
	}
	return len(a.Right) < len(b.Right)
}

// is: are the productions of a grammar these, in order?
func (s set) is(l []plain.Prod) bool {
	for k := 1; k < len(l); k++ {
		if !less(l[k-1], l[k]) {
			return false
		}
	}
	return len(l) == len(s) && maps.EqualFunc(s, setOf(l), func(a, b plain.Prod) bool { return true })
}

func slowTerm(g cnf.Grammar) (set, int) {
	s, count := setOf(g.Prods), g.Count
	for t := range g.Terms {
		met := false
		for _, prod := range slices.Collect(maps.Values(s)) {
			if len(prod.Right) < 2 || !slices.Contains(prod.Right, -1-t) {
				continue
			}
			met = true
			delete(s, shown([]plain.Prod{prod}))
			now := to(prod.Left)
			for _, symbol := range prod.Right {
				if symbol == -1-t {
					symbol = count
				}
				now.Right = append(now.Right, symbol)
			}
			s.add(now)
		}
		if met {
			s.add(to(count, -1-t))
			count++
		}
	}
	return s, count
}

func slowBin(g cnf.Grammar) (set, int) {
	s, count := set{}, g.Count
	for _, prod := range g.Prods {
		k := len(prod.Right)
		if k <= 2 {
			s.add(prod)
			continue
		}
		s.add(to(prod.Left, prod.Right[0], count))
		for n := range k - 3 {
			s.add(to(count+n, prod.Right[n+1], count+n+1))
		}
		s.add(to(count+k-3, prod.Right[k-2], prod.Right[k-1]))
		count += k - 2
	}
	return s, count
}

// slowNullable: tried as often as there are nonterminals.
func slowNullable(g cnf.Grammar) []bool {
	nullable := make([]bool, g.Count)
	full := func(symbol int) bool { return symbol < 0 || !nullable[symbol] }
	for range g.Count {
		for _, prod := range g.Prods {
			if !slices.ContainsFunc(prod.Right, full) {
				nullable[prod.Left] = true
			}
		}
	}
	return nullable
}

func slowDel(g cnf.Grammar) (set, bool) {
	s, nullable := set{}, slowNullable(g)
	for _, prod := range g.Prods {
		for out := range 1 << len(prod.Right) {
			now, ok := to(prod.Left), true
			for k, symbol := range prod.Right {
				if out>>k&1 == 0 {
					now.Right = append(now.Right, symbol)
				} else {
					ok = ok && symbol >= 0 && nullable[symbol]
				}
			}
			if ok && len(now.Right) > 0 {
				s.add(now)
			}
		}
	}
	return s, g.Empty || nullable[g.Start]
}

func slowUnit(g cnf.Grammar) set {
	comes := make([][]bool, g.Count)
	for a := range comes {
		comes[a] = make([]bool, g.Count)
		comes[a][a] = true
	}
	for range g.Count {
		for _, prod := range g.Prods {
			for b := range g.Count {
				if len(prod.Right) == 1 && prod.Right[0] >= 0 && comes[prod.Right[0]][b] {
					comes[prod.Left][b] = true
				}
			}
		}
	}
	s := set{}
	for _, prod := range g.Prods {
		for a := range g.Count {
			if comes[a][prod.Left] && (len(prod.Right) != 1 || prod.Right[0] < 0) {
				s.add(to(a, prod.Right...))
			}
		}
	}
	return s
}

const mostLong = 4

type words map[string]struct{}

// wordsOf a grammar, up to a length: a letter for each terminal.
func wordsOf(g cnf.Grammar) words {
	all := make([]words, g.Count)
	for a := range all {
		all[a] = words{}
	}
	for more := true; more; {
		more = false
		for _, prod := range g.Prods {
			for w := range rowWords(all, prod.Right) {
				if _, ok := all[prod.Left][w]; !ok {
					all[prod.Left][w] = struct{}{}
					more = true
				}
			}
		}
	}
	l := maps.Clone(all[g.Start])
	if g.Empty {
		l[""] = struct{}{}
	}
	return l
}

func rowWords(all []words, right []int) words {
	l := words{"": {}}
	for _, symbol := range right {
		next := words{}
		part := words{}
		if symbol < 0 {
			part[string(rune('a'-1-symbol))] = struct{}{}
		} else {
			part = all[symbol]
		}
		for a := range l {
			for b := range part {
				if len(a)+len(b) <= mostLong {
					next[a+b] = struct{}{}
				}
			}
		}
		l = next
	}
	return l
}

func wordsOfPlain(t *testing.T, p plain.Grammar) words {
	l, err := lang.Words(p, mostLong)
	if err != api.OK {
		t.Fatal(err)
	}
	all := words{}
	for _, word := range l {
		w := ""
		for _, n := range word {
			w += string(rune('a' + n))
		}
		all[w] = struct{}{}
	}
	return all
}

// TestManyGrammars: each step is the one that is told another way, and its words are the grammar's.
func TestManyGrammars(t *testing.T) {
	r := rand.New(rand.NewPCG(19, 20))
	empty, some := 0, 0
	for range 3000 {
		p := random(t, r)
		want := wordsOfPlain(t, p)
		wrong := func(step string, g cnf.Grammar) {
			t.Fatalf("%s of %s, from %d: %v %s", step, shown(p.Prods), p.Start, g, shown(g.Prods))
		}
		check := func(step string, g, before cnf.Grammar, s set) {
			if !s.is(g.Prods) || g.Terms != before.Terms || !maps.Equal(wordsOf(g), want) {
				wrong(step, g)
			}
		}
		of, err := cnf.Of(p)
		if err != api.OK || of.Start != p.Start || of.Count != len(p.Names) || of.Empty {
			wrong("Of", of)
		}
		check("Of", of, cnf.Grammar{Terms: len(p.Terms)}, setOf(p.Prods))
		start := cnf.Start(of)
		check("Start", start, of, setOf(append(slices.Clone(of.Prods), to(of.Count, of.Start))))
		term := cnf.Term(start)
		s, count := slowTerm(start)
		check("Term", term, start, s)
		if start.Start != of.Count || start.Count != of.Count+1 || term.Start != start.Start || term.Count != count {
			wrong("Term", term)
		}
		bin := cnf.Bin(term)
		s, count = slowBin(term)
		check("Bin", bin, term, s)
		if bin.Start != start.Start || bin.Count != count {
			wrong("Bin", bin)
		}
		del := cnf.Del(bin)
		s, isEmpty := slowDel(bin)
		check("Del", del, bin, s)
		if del.Start != start.Start || del.Count != count || del.Empty != isEmpty || term.Empty || bin.Empty {
			wrong("Del", del)
		}
		unit, err := cnf.Unit(del)
		check("Unit", unit, del, slowUnit(del))
		if err != api.OK || unit.Start != start.Start || unit.Count != count || unit.Empty != isEmpty || !cnf.Normal(unit) {
			wrong("Unit", unit)
		}
		if g, err := cnf.Build(p); err != api.OK || !same(g, unit) {
			wrong("Build", g)
		}
		if isEmpty {
			empty++
		}
		if len(want) > 1 {
			some++
		}
	}
	if empty < 300 || empty > 2700 || some < 500 {
		t.Error("one-sided grammars:", empty, some)
	}
}

// TestManySteps: steps in any order, of what other steps told.
func TestManySteps(t *testing.T) {
	r := rand.New(rand.NewPCG(21, 22))
	for n := range 1000 {
		p := random(t, r)
		want := wordsOfPlain(t, p)
		g, _ := cnf.Of(p)
		steps := ""
		for range 6 {
			if len(g.Prods) > 200 {
				break
			}
			k := r.IntN(5)
			steps += strconv.Itoa(k)
			var s set
			var made cnf.Grammar
			switch k {
			case 0:
				made, s = cnf.Start(g), setOf(append(slices.Clone(g.Prods), to(g.Count, g.Start)))
			case 1:
				made = cnf.Term(g)
				s, _ = slowTerm(g)
			case 2:
				made = cnf.Bin(g)
				s, _ = slowBin(g)
			case 3:
				made = cnf.Del(g)
				s, _ = slowDel(g)
			case 4:
				made, _ = cnf.Unit(g)
				s = slowUnit(g)
			}
			if !s.is(made.Prods) || !maps.Equal(wordsOf(made), want) {
				t.Fatalf("%d: %s of %s: %s", n, steps, shown(g.Prods), shown(made.Prods))
			}
			g = made
		}
	}
}

// TestManyNormal: what isn't in order, or of another kind, isn't in normal form.
func TestManyNormal(t *testing.T) {
	r := rand.New(rand.NewPCG(23, 24))
	normal := 0
	for range 3000 {
		g, err := cnf.Build(random(t, r))
		if err != api.OK || !cnf.Normal(g) {
			t.Fatal(g, err)
		}
		k := len(g.Prods)
		if k < 2 {
			continue
		}
		normal++
		a, b := r.IntN(k), r.IntN(k)
		g.Prods[a], g.Prods[b] = g.Prods[b], g.Prods[a]
		if cnf.Normal(g) != (a == b) {
			t.Fatal(a, b, shown(g.Prods))
		}
		g.Prods[a], g.Prods[b] = g.Prods[b], g.Prods[a]
		if g.Prods = slices.Insert(g.Prods, a, g.Prods[a]); cnf.Normal(g) {
			t.Fatal(a, shown(g.Prods))
		}
	}
	if normal < 1000 {
		t.Error("one-sided grammars:", normal)
	}
}
