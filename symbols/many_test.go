package symbols_test

import (
	"math/rand/v2"
	"slices"
	"testing"

	"primer/api"
	"primer/symbols"
	"primer/syntax"
)

var names = []string{"a", "b", "c", "d", "e", "f", "g"}

func random(r *rand.Rand, deep, wide int) syntax.Node {
	if deep == 0 || r.IntN(3) == 0 {
		kind := []int{syntax.Ref, syntax.Ref, syntax.Lit}[r.IntN(3)]
		return node(kind, names[r.IntN(wide)])
	}
	n := node(syntax.Seq+r.IntN(5), "")
	for range r.IntN(3) {
		n.Kids = append(n.Kids, random(r, deep-1, wide))
	}
	return n
}

func someGrammar(r *rand.Rand) syntax.Grammar {
	wide := 1 + r.IntN(len(names))
	g := syntax.Grammar{Start: names[r.IntN(wide)]}
	for range r.IntN(8) {
		g.Rules = append(g.Rules, syntax.Rule{Name: names[r.IntN(wide)], Body: random(r, r.IntN(4), wide)})
	}
	return g
}

// leaves: the texts of one kind in a node, by a list of what is still to be gone through.
func leaves(n syntax.Node, kind int) []string {
	var l []string
	for todo := []syntax.Node{n}; len(todo) > 0; {
		n, todo = todo[0], todo[1:]
		if n.Kind == kind {
			l = append(l, n.Text)
		}
		todo = append(slices.Clone(n.Kids), todo...)
	}
	return l
}

func firstOf(g syntax.Grammar, name string) int {
	return slices.IndexFunc(g.Rules, func(r syntax.Rule) bool { return r.Name == name })
}

func slowTable(g syntax.Grammar) []symbols.Symbol {
	var order []string
	uses := map[string]int{}
	for _, r := range g.Rules {
		order = append(order, r.Name)
	}
	for _, r := range g.Rules {
		for _, name := range leaves(r.Body, syntax.Ref) {
			order = append(order, name)
			uses[name]++
		}
	}
	var l []symbols.Symbol
	for k, name := range order {
		if slices.Index(order, name) == k {
			l = append(l, symbols.Symbol{Name: name, Rule: firstOf(g, name), Uses: uses[name]})
		}
	}
	return l
}

func slowTerminals(g syntax.Grammar) []string {
	var l []string
	for _, r := range g.Rules {
		for _, text := range leaves(r.Body, syntax.Lit) {
			if !slices.Contains(l, text) {
				l = append(l, text)
			}
		}
	}
	return l
}

func slowCheck(g syntax.Grammar) []symbols.Problem {
	var l []symbols.Problem
	for k, r := range g.Rules {
		if firstOf(g, r.Name) < k {
			l = append(l, symbols.Problem{Code: api.ErrExists, Rule: k, Name: r.Name})
		}
		refs := leaves(r.Body, syntax.Ref)
		for at, name := range refs {
			if firstOf(g, name) < 0 && !slices.Contains(refs[:at], name) {
				l = append(l, symbols.Problem{Code: api.ErrNone, Rule: k, Name: name})
			}
		}
	}
	if firstOf(g, g.Start) < 0 {
		l = append(l, symbols.Problem{Code: api.ErrStart, Rule: -1, Name: g.Start})
	}
	return l
}

func slowCalls(g syntax.Grammar) [][]int {
	l := make([][]int, len(g.Rules))
	for k, r := range g.Rules {
		refs := leaves(r.Body, syntax.Ref)
		for to, called := range g.Rules {
			if firstOf(g, called.Name) == to && slices.Contains(refs, called.Name) {
				l[k] = append(l[k], to)
			}
		}
	}
	return l
}

// slowRecursive: by which rules come to which in so many calls at most.
func slowRecursive(g syntax.Grammar) []string {
	size := len(g.Rules)
	comes := make([][]bool, size)
	for k, calls := range slowCalls(g) {
		comes[k] = make([]bool, size)
		for _, to := range calls {
			comes[k][to] = true
		}
	}
	for over := range size {
		for from := range size {
			for to := range size {
				comes[from][to] = comes[from][to] || comes[from][over] && comes[over][to]
			}
		}
	}
	var l []string
	for k, r := range g.Rules {
		if comes[k][k] {
			l = append(l, r.Name)
		}
	}
	return l
}

func TestManyGrammars(t *testing.T) {
	r := rand.New(rand.NewPCG(11, 12))
	sound, recursive := 0, 0
	for range 20000 {
		g := someGrammar(r)
		if got, want := symbols.Table(g), slowTable(g); !slices.Equal(got, want) {
			t.Fatal(g, got, want)
		}
		if got, want := symbols.Terminals(g), slowTerminals(g); !slices.Equal(got, want) {
			t.Fatal(g, got, want)
		}
		problems := symbols.Check(g)
		if want := slowCheck(g); !slices.Equal(problems, want) {
			t.Fatal(g, problems, want)
		}
		if got, want := symbols.Calls(g), slowCalls(g); !sameCalls(got, want) {
			t.Fatal(g, got, want)
		}
		back := symbols.Recursive(g)
		if want := slowRecursive(g); !slices.Equal(back, want) {
			t.Fatal(g, back, want)
		}
		if len(problems) == 0 {
			sound++
		}
		if len(back) > 0 && len(back) < len(g.Rules) {
			recursive++
		}
	}
	if sound < 500 || recursive < 5000 {
		t.Error("one-sided grammars:", sound, recursive)
	}
}
