package refactor

import (
	"primer/symbols"
	"primer/syntax"
)

// A trimmer knows the names of the rules that derive a word.
type trimmer map[string]struct{}

// living: what is left of a grammar without its dead nodes, and without the rules that derive no word.
func living(g syntax.Grammar, generating []bool) syntax.Grammar {
	t := make(trimmer)
	for k, r := range g.Rules {
		if generating[k] {
			t[r.Name] = struct{}{}
		}
	}
	left := syntax.Grammar{Start: g.Start}
	for _, r := range g.Rules {
		if body, ok := t.trimmed(r.Body); ok {
			left.Rules = append(left.Rules, syntax.Rule{Name: r.Name, Body: body})
		}
	}
	return left
}

// trimmed: what is left of a node, and true; false of a dead one.
func (t trimmer) trimmed(n syntax.Node) (syntax.Node, bool) {
	switch n.Kind {
	case syntax.Ref:
		_, lives := t[n.Text]
		return n, lives
	case syntax.Alt:
		return t.trimmedAlt(n)
	}
	left := syntax.Node{Kind: n.Kind, Text: n.Text}
	for _, kid := range n.Kids {
		k, lives := t.trimmed(kid)
		switch {
		case lives:
			left.Kids = append(left.Kids, k)
		case n.Kind == syntax.Opt || n.Kind == syntax.Star:
			return syntax.Node{Kind: syntax.Seq}, true
		default:
			return syntax.Node{}, false
		}
	}
	return left, true
}

func (t trimmer) trimmedAlt(n syntax.Node) (syntax.Node, bool) {
	left := syntax.Node{Kind: syntax.Alt}
	for _, kid := range n.Kids {
		if k, lives := t.trimmed(kid); lives {
			left.Kids = append(left.Kids, k)
		}
	}
	switch len(left.Kids) {
	case 0:
		return syntax.Node{}, false
	case 1:
		return left.Kids[0], true
	}
	return left, true
}

// called: a grammar without the rules that aren't come to from its start.
func called(g syntax.Grammar) syntax.Grammar {
	calls := symbols.Calls(g)
	met := make([]bool, len(g.Rules))
	todo := []int{place(g, g.Start)}
	for len(todo) > 0 {
		k := todo[len(todo)-1]
		todo = todo[:len(todo)-1]
		if !met[k] {
			met[k] = true
			todo = append(todo, calls[k]...)
		}
	}
	left := syntax.Grammar{Start: g.Start}
	for k, r := range g.Rules {
		if met[k] {
			left.Rules = append(left.Rules, r)
		}
	}
	return left
}
