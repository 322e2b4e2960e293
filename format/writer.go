package format

import (
	"strings"

	"primer/lex"
	"primer/syntax"
)

// A writer writes proper nodes, each as the place asks for in which it stands.
type writer struct {
	strings.Builder
}

func (w *writer) all(texts ...string) {
	for _, s := range texts {
		w.WriteString(s)
	}
}

// between writes a node's text with a bracket on either side.
func (w *writer) between(open byte, n syntax.Node, shut byte) {
	w.WriteByte(open)
	w.node(n)
	w.WriteByte(shut)
}

func (w *writer) node(n syntax.Node) {
	switch n.Kind {
	case syntax.Ref:
		w.WriteString(n.Text)
	case syntax.Lit:
		w.WriteString(lex.Quote(n.Text))
	case syntax.Seq:
		for k, item := range n.Kids {
			if k > 0 {
				w.WriteByte(' ')
			}
			w.item(item)
		}
	case syntax.Alt:
		for k, row := range n.Kids {
			if k > 0 {
				w.WriteByte('|')
			}
			w.row(row)
		}
	case syntax.Opt:
		w.repeated(n, '?')
	case syntax.Star:
		w.repeated(n, '*')
	case syntax.Plus:
		w.atom(n.Kids[0])
		w.WriteByte('+')
	}
}

// repeated writes an Opt or a Star: with the sign behind its kid, where that is shorter or as short, else in its brackets.
func (w *writer) repeated(n syntax.Node, sign byte) {
	kid := n.Kids[0]
	switch kid.Kind {
	case syntax.Ref, syntax.Lit, syntax.Opt, syntax.Star:
		w.atom(kid)
		w.WriteByte(sign)
	default:
		w.atom(n)
	}
}

func (w *writer) atom(n syntax.Node) {
	switch n.Kind {
	case syntax.Ref, syntax.Lit:
		w.node(n)
	case syntax.Opt:
		w.between('[', n.Kids[0], ']')
	case syntax.Star:
		w.between('{', n.Kids[0], '}')
	default:
		w.between('(', n, ')')
	}
}

func (w *writer) item(n syntax.Node) {
	if n.Kind == syntax.Seq {
		w.between('(', n, ')')
		return
	}
	w.row(n)
}

func (w *writer) row(n syntax.Node) {
	if n.Kind == syntax.Alt {
		w.between('(', n, ')')
		return
	}
	w.node(n)
}
