package refactor

import (
	"slices"

	"primer/api"
	"primer/lex"
	"primer/nodes"
	"primer/symbols"
	"primer/syntax"
)

const (
	noRule = -1 // the place of a rule that there isn't

	// Each node of a text can be told a token, so that none is told more than three: an Alt its first |, and a Seq the | or the closing sign beside it.
	mostNodes = 3 * api.MaxTokens
)

// change does what each change has first and last. What own makes may share lists with g, and within itself: what is told is a copy.
func change(g syntax.Grammar, own func() (syntax.Grammar, api.Errno)) (syntax.Grammar, api.Errno) {
	if !syntax.Proper(g) {
		return syntax.Grammar{}, api.ErrArg
	}
	if problems := symbols.Check(g); len(problems) > 0 {
		return syntax.Grammar{}, problems[0].Code
	}
	made, err := own()
	if err != api.OK {
		return syntax.Grammar{}, err
	}
	if !Fits(made) {
		return syntax.Grammar{}, api.ErrQuota
	}
	return turned(made, func(ref syntax.Node) syntax.Node { return ref }), api.OK
}

// small: are the nodes as few as in a text? They are counted ahead of all else, as far as that: what is inlined again and again may be more than there is room for.
func small(g syntax.Grammar) bool {
	left := mostNodes
	for _, r := range g.Rules {
		left = leftBeside(r.Body, left)
	}
	return left >= 0
}

// leftBeside: how many of so many nodes are left beside those of n; below 0, when these are more.
func leftBeside(n syntax.Node, left int) int {
	left--
	for _, kid := range n.Kids {
		if left < 0 {
			break
		}
		left = leftBeside(kid, left)
	}
	return left
}

func place(g syntax.Grammar, name string) int {
	return slices.IndexFunc(g.Rules, func(r syntax.Rule) bool { return r.Name == name })
}

func reference(name string) syntax.Node {
	return syntax.Node{Kind: syntax.Ref, Text: name}
}

// turned: a grammar in which turn tells what stands for each Ref. All else is new memory.
func turned(g syntax.Grammar, turn func(ref syntax.Node) syntax.Node) syntax.Grammar {
	made := syntax.Grammar{Start: g.Start}
	for _, r := range g.Rules {
		made.Rules = append(made.Rules, syntax.Rule{Name: r.Name, Body: turnedNode(r.Body, turn)})
	}
	return made
}

func turnedNode(n syntax.Node, turn func(ref syntax.Node) syntax.Node) syntax.Node {
	if n.Kind == syntax.Ref {
		return turn(n)
	}
	made := syntax.Node{Kind: n.Kind, Text: n.Text}
	for _, kid := range n.Kids {
		made.Kids = append(made.Kids, turnedNode(kid, turn))
	}
	return made
}

func renamed(g syntax.Grammar, old, fresh string) syntax.Grammar {
	now := func(name string) string {
		if name == old {
			return fresh
		}
		return name
	}
	made := turned(g, func(ref syntax.Node) syntax.Node { return reference(now(ref.Text)) })
	made.Start = now(g.Start)
	for k, r := range g.Rules {
		made.Rules[k].Name = now(r.Name)
	}
	return made
}

func inlined(g syntax.Grammar, at int) syntax.Grammar {
	rule := g.Rules[at]
	made := turned(g, func(ref syntax.Node) syntax.Node {
		if ref.Text == rule.Name {
			return rule.Body
		}
		return ref
	})
	made.Rules = slices.Delete(made.Rules, at, at+1)
	return made
}

// within: has a row one item or more from a place on, and as many as told?
func within(items []syntax.Node, from, n int) bool {
	return n >= 1 && from >= 0 && n <= len(items)-from
}

func extracted(g syntax.Grammar, at, row, from, n int, name string) syntax.Grammar {
	rows := slices.Clone(nodes.Rows(g.Rules[at].Body))
	items := nodes.Items(rows[row])
	rows[row] = nodes.Row(slices.Concat(items[:from], []syntax.Node{reference(name)}, items[from+n:]))
	made := syntax.Grammar{Start: g.Start, Rules: slices.Clone(g.Rules)}
	made.Rules[at].Body = nodes.Body(rows)
	made.Rules = append(made.Rules, syntax.Rule{Name: name, Body: nodes.Row(items[from : from+n])})
	return made
}

func good(names []string) bool {
	return !slices.ContainsFunc(names, func(name string) bool { return !lex.Good(name) })
}
