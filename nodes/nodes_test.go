package nodes_test

import (
	"slices"
	"testing"

	"primer/nodes"
	"primer/syntax"
)

// TestThereAndBack: rows and items are those of the text, and make the body again.
func TestThereAndBack(t *testing.T) {
	for text, want := range map[string][]int{
		"":                {0},
		"|":               {0, 0},
		"'x'":             {1},
		"a":               {1},
		"'x' a":           {2},
		"'x' a|a?|":       {2, 1, 0},
		"('x'|a)":         {1, 1},
		"('x'|a) a":       {2},
		"('x'|a)|'x'+":    {1, 1},
		"['x' a|a]":       {1},
		"()|() ()|(a)|{}": {0, 2, 1, 1},
	} {
		g, _ := syntax.Parse("a:" + text + ";")
		body := g.Rules[0].Body
		var counts []int
		var rows []syntax.Node
		for _, row := range nodes.Rows(body) {
			items := nodes.Items(row)
			counts = append(counts, len(items))
			rows = append(rows, nodes.Row(items))
		}
		if !slices.Equal(counts, want) {
			t.Errorf("%q: %v", text, counts)
		}
		if again := nodes.Body(rows); !syntax.SameNode(again, body) {
			t.Errorf("%q: %v", text, again)
		}
	}
}
