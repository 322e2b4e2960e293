package plain_test

import (
	"fmt"
	"maps"
	"math/rand/v2"
	"slices"
	"testing"

	"primer/api"
	"primer/plain"
	"primer/symbols"
	"primer/syntax"
)

func random(r *rand.Rand, deep, rules int) syntax.Node {
	if deep == 0 || r.IntN(4) == 0 {
		if r.IntN(2) == 0 {
			return syntax.Node{Kind: syntax.Ref, Text: string(rune('a' + r.IntN(rules)))}
		}
		return syntax.Node{Kind: syntax.Lit, Text: string(rune('x' + r.IntN(3)))}
	}
	n := syntax.Node{Kind: syntax.Seq + r.IntN(5)}
	count := 1
	switch n.Kind {
	case syntax.Seq:
		count = []int{0, 2, 2, 3}[r.IntN(4)]
	case syntax.Alt:
		count = 2 + r.IntN(2)
	}
	for range count {
		n.Kids = append(n.Kids, random(r, deep-1, rules))
	}
	return n
}

func someGrammar(r *rand.Rand) syntax.Grammar {
	rules := 1 + r.IntN(3)
	g := syntax.Grammar{Start: string(rune('a' + r.IntN(rules)))}
	for k := range rules {
		g.Rules = append(g.Rules, syntax.Rule{Name: string(rune('a' + k)), Body: random(r, r.IntN(5), rules)})
	}
	return g
}

// A form of a production, of items that are still nodes; with itself behind them, or not.
type form struct {
	items  []syntax.Node
	itself bool
}

func forms(n syntax.Node, rule bool) []form {
	of := func(n syntax.Node, itself bool) []form {
		l := []syntax.Node{n}
		if n.Kind == syntax.Alt {
			l = n.Kids
		}
		var all []form
		for _, row := range l {
			f := form{[]syntax.Node{row}, itself}
			if row.Kind == syntax.Seq {
				f.items = row.Kids
			}
			all = append(all, f)
		}
		return all
	}
	switch {
	case !rule && n.Kind == syntax.Opt:
		return append(of(n.Kids[0], false), form{})
	case !rule && n.Kind == syntax.Star:
		return append([]form{{}}, of(n.Kids[0], true)...)
	case !rule && n.Kind == syntax.Plus:
		var all []form
		again := of(n.Kids[0], true)
		for k, f := range of(n.Kids[0], false) {
			all = append(all, f, again[k])
		}
		return all
	}
	return of(n, false)
}

// follow goes through a grammar's productions, and tells what isn't as the source says; which one is made for which node it learns on the way.
func follow(g syntax.Grammar, p plain.Grammar) string {
	var nodes []syntax.Node
	var homes []string
	known := map[string]int{} // the nonterminals of nodes: by whose kids' row, and at which place in it, they stand
	made := map[string]int{}
	for k, r := range g.Rules {
		nodes, homes = append(nodes, r.Body), append(homes, r.Name)
		if p.Names[k] != r.Name {
			return "name of rule " + r.Name
		}
	}
	at := 0
	for left := 0; left < len(nodes); left++ {
		for k, f := range forms(nodes[left], left < len(g.Rules)) {
			if at == len(p.Prods) || p.Prods[at].Left != left {
				return fmt.Sprint("left ", at)
			}
			right := p.Prods[at].Right
			if f.itself {
				if len(right) == 0 || right[len(right)-1] != left {
					return fmt.Sprint("no itself ", at)
				}
				right = right[:len(right)-1]
			}
			if len(right) != len(f.items) {
				return fmt.Sprint("wide ", at)
			}
			row := k
			if nodes[left].Kind == syntax.Plus && left >= len(g.Rules) {
				row = k / 2
			}
			for place, item := range f.items {
				symbol, want := right[place], 0
				key := fmt.Sprint(left, " ", row, " ", place)
				switch item.Kind {
				case syntax.Ref:
					want = slices.IndexFunc(g.Rules, func(r syntax.Rule) bool { return r.Name == item.Text })
				case syntax.Lit:
					want = -1 - slices.Index(symbols.Terminals(g), item.Text)
				default:
					n, ok := known[key]
					if !ok {
						n = len(nodes)
						home := homes[left]
						known[key] = n
						made[home]++
						nodes, homes = append(nodes, item), append(homes, home)
						if n >= len(p.Names) || p.Names[n] != fmt.Sprintf("%s.%d", home, made[home]) {
							return "name of " + key
						}
					}
					want = n
				}
				if symbol != want {
					return fmt.Sprint("symbol ", key, ": ", symbol, ", not ", want)
				}
			}
			at++
		}
	}
	if at != len(p.Prods) || len(nodes) != len(p.Names) || p.Rules != len(g.Rules) || p.Names[p.Start] != g.Start {
		return "more, or another start"
	}
	return ""
}

const mostLong = 3

type words map[string]struct{}

func joined(a, b words) words {
	l := words{}
	for x := range a {
		for y := range b {
			if len(x)+len(y) <= mostLong {
				l[x+y] = struct{}{}
			}
		}
	}
	return l
}

// wordsOf a node, when those of the rules' names are known.
func wordsOf(n syntax.Node, rules map[string]words) words {
	l := words{}
	switch n.Kind {
	case syntax.Ref:
		maps.Copy(l, rules[n.Text])
		return l
	case syntax.Lit:
		l[n.Text] = struct{}{}
		return l
	case syntax.Seq:
		l[""] = struct{}{}
		for _, kid := range n.Kids {
			l = joined(l, wordsOf(kid, rules))
		}
		return l
	case syntax.Alt:
		for _, kid := range n.Kids {
			maps.Copy(l, wordsOf(kid, rules))
		}
		return l
	}
	once := wordsOf(n.Kids[0], rules)
	if n.Kind == syntax.Opt {
		once[""] = struct{}{}
		return once
	}
	l[""] = struct{}{}
	for range mostLong {
		maps.Copy(l, joined(l, once))
	}
	if n.Kind == syntax.Plus {
		return joined(l, once)
	}
	return l
}

func size(rules map[string]words) int {
	n := 0
	for _, l := range rules {
		n += len(l)
	}
	return n
}

func sourceWords(g syntax.Grammar) map[string]words {
	rules := map[string]words{}
	for before := -1; size(rules) > before; {
		before = size(rules)
		for _, r := range g.Rules {
			rules[r.Name] = wordsOf(r.Body, rules)
		}
	}
	return rules
}

func plainWords(p plain.Grammar) map[string]words {
	all := map[string]words{}
	for _, name := range p.Names {
		all[name] = words{}
	}
	for before := -1; size(all) > before; {
		before = size(all)
		for _, prod := range p.Prods {
			l := words{"": {}}
			for _, symbol := range prod.Right {
				if symbol < 0 {
					l = joined(l, words{p.Terms[-1-symbol]: {}})
				} else {
					l = joined(l, all[p.Names[symbol]])
				}
			}
			maps.Copy(all[p.Names[prod.Left]], l)
		}
	}
	for _, name := range p.Names[p.Rules:] {
		delete(all, name)
	}
	return all
}

// TestManyGrammars: each production is the one that the document tells, and all rules have the words that they had.
func TestManyGrammars(t *testing.T) {
	r := rand.New(rand.NewPCG(13, 14))
	refused := 0
	for range 3000 {
		g := someGrammar(r)
		p, err := plain.Desugar(g)
		if err == api.ErrQuota {
			refused++
			continue
		}
		if err != api.OK || !plain.Sound(p) || !slices.Equal(p.Terms, symbols.Terminals(g)) {
			t.Fatal(g, p, err)
		}
		if wrong := follow(g, p); wrong != "" {
			t.Fatal(g, plain.Lines(p), wrong)
		}
		source, now := sourceWords(g), plainWords(p)
		if !maps.EqualFunc(source, now, func(a, b words) bool { return maps.Equal(a, b) }) {
			t.Fatal(g, plain.Lines(p), source, now)
		}
	}
	if refused > 300 {
		t.Error("one-sided grammars:", refused)
	}
}

// TestManyWords: texts of a word are the word again.
func TestManyWords(t *testing.T) {
	r := rand.New(rand.NewPCG(15, 16))
	for range 2000 {
		p := plain.Grammar{Terms: texts(1 + r.IntN(api.MaxProds))}
		word := make([]int, r.IntN(api.MaxWord+1))
		for k := range word {
			word[k] = r.IntN(len(p.Terms))
		}
		again, ok := plain.Word(p, plain.Texts(p, word))
		if !ok || !slices.Equal(again, word) {
			t.Fatal(word, again, ok)
		}
	}
}
