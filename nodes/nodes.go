// Package nodes tells what several layers ask of a rule's body: whether it is proper, its rows, and a row's items. What it tells shares its lists with what it is given.
package nodes

import "primer/syntax"

// Proper: is a node?
func Proper(n syntax.Node) bool {
	// Layer 5 tells it of grammars alone, so the node is made one's only body.
	alone := syntax.Grammar{Start: "a", Rules: []syntax.Rule{{Name: "a", Body: n}}}
	return syntax.Proper(alone)
}

// Rows of a node.
func Rows(n syntax.Node) []syntax.Node {
	if n.Kind == syntax.Alt {
		return n.Kids
	}
	return []syntax.Node{n}
}

// Items of a row.
func Items(row syntax.Node) []syntax.Node {
	if row.Kind == syntax.Seq {
		return row.Kids
	}
	return []syntax.Node{row}
}

// Row of items: one alone stands for itself.
func Row(items []syntax.Node) syntax.Node {
	return joined(syntax.Seq, items)
}

// Body of rows: one alone stands for itself.
func Body(rows []syntax.Node) syntax.Node {
	return joined(syntax.Alt, rows)
}

func joined(kind int, kids []syntax.Node) syntax.Node {
	if len(kids) == 1 {
		return kids[0]
	}
	return syntax.Node{Kind: kind, Kids: kids}
}
