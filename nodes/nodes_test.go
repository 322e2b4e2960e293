package nodes_test

import (
	"slices"
	"testing"

	"primer/nodes"
	"primer/syntax"
)

// TestThereAndBack: rows and items are those of the text, and make the body again.
func TestThereAndBack(t *testing.T) {
	for text, want := range map[string][]int{
		"":                {0},
		"|":               {0, 0},
		"'x'":             {1},
		"a":               {1},
		"'x' a":           {2},
		"'x' a|a?|":       {2, 1, 0},
		"('x'|a)":         {1, 1},
		"('x'|a) a":       {2},
		"('x'|a)|'x'+":    {1, 1},
		"['x' a|a]":       {1},
		"()|() ()|(a)|{}": {0, 2, 1, 1},
	} {
		g, _ := syntax.Parse("a:" + text + ";")
		body := g.Rules[0].Body
		var counts []int
		var rows []syntax.Node
		for _, row := range nodes.Rows(body) {
			items := nodes.Items(row)
			counts = append(counts, len(items))
			rows = append(rows, nodes.Row(items))
		}
		if !slices.Equal(counts, want) {
			t.Errorf("%q: %v", text, counts)
		}
		if again := nodes.Body(rows); !syntax.SameNode(again, body) {
			t.Errorf("%q: %v", text, again)
		}
	}
}

// TestProper: of a node by itself it is told as of a grammar's body.
func TestProper(t *testing.T) {
	x, none := syntax.Node{Kind: syntax.Lit, Text: "x"}, syntax.Node{}
	for _, c := range []struct {
		n    syntax.Node
		want bool
	}{
		{x, true}, {none, false}, {syntax.Node{Kind: syntax.Ref, Text: "b-1"}, true}, {syntax.Node{Kind: syntax.Ref, Text: "1"}, false},
		{syntax.Node{Kind: syntax.Seq}, true}, {syntax.Node{Kind: syntax.Alt}, false}, {syntax.Node{Kind: syntax.Seq, Kids: []syntax.Node{x}}, false},
		{syntax.Node{Kind: syntax.Alt, Kids: []syntax.Node{x, x}}, true}, {syntax.Node{Kind: syntax.Star, Kids: []syntax.Node{x}}, true}, {syntax.Node{Kind: syntax.Star, Kids: []syntax.Node{none}}, false},
	} {
		g := syntax.Grammar{Start: "s", Rules: []syntax.Rule{{Name: "s", Body: c.n}, {Name: "t", Body: x}}}
		if nodes.Proper(c.n) != c.want || syntax.Proper(g) != c.want {
			t.Error(c.n, !c.want)
		}
	}
}
