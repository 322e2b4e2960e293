package plain

import (
	"slices"
	"strconv"

	"primer/api"
	"primer/nodes"
	"primer/symbols"
	"primer/syntax"
)

// A maker makes the productions of nonterminals, one after the other, and new nonterminals as it meets their nodes.
type maker struct {
	made   Grammar
	names  map[string]int // the rules' nonterminals
	terms  map[string]int
	nodes  []syntax.Node // of each nonterminal what it was made for; of a rule's its body
	homes  []int         // of each nonterminal the rule in whose body that stands
	counts []int         // of each rule how many were made in its body
	over   bool          // there would be more of something than may be
}

func newMaker(g syntax.Grammar) *maker {
	m := maker{counts: make([]int, len(g.Rules))}
	m.made.Rules = len(g.Rules)
	for k, r := range g.Rules {
		m.add(r.Name, r.Body, k)
	}
	m.made.Terms = symbols.Terminals(g)
	m.names = numbers(m.made.Names)
	m.terms = numbers(m.made.Terms)
	m.made.Start = m.names[g.Start]
	m.over = len(m.made.Terms) > api.MaxProds
	return &m
}

// add: the next nonterminal.
func (m *maker) add(name string, n syntax.Node, home int) {
	m.made.Names = append(m.made.Names, name)
	m.nodes = append(m.nodes, n)
	m.homes = append(m.homes, home)
}

// produce makes a nonterminal's productions.
func (m *maker) produce(left int) {
	n := m.nodes[left]
	if left < m.made.Rules || n.Kind == syntax.Seq || n.Kind == syntax.Alt {
		for _, row := range nodes.Rows(n) {
			m.put(left, m.right(left, row))
		}
		return
	}
	m.repeat(left, n)
}

// repeat makes the productions of an Opt, a Star or a Plus: the first two may be nothing, the last two go on.
func (m *maker) repeat(left int, n syntax.Node) {
	if n.Kind == syntax.Star {
		m.put(left, nil)
	}
	for _, row := range nodes.Rows(n.Kids[0]) {
		right := m.right(left, row)
		if n.Kind != syntax.Star {
			m.put(left, right)
		}
		if n.Kind != syntax.Opt {
			m.put(left, append(slices.Clone(right), left))
		}
	}
	if n.Kind == syntax.Opt {
		m.put(left, nil)
	}
}

func (m *maker) put(left int, right []int) {
	if len(m.made.Prods) == api.MaxProds || len(right) > api.MaxSide {
		m.over = true
	}
	if !m.over {
		m.made.Prods = append(m.made.Prods, Prod{Left: left, Right: right})
	}
}

// right: the symbols of a row's items; none, when there is too much of something already: so it ends soon.
func (m *maker) right(left int, row syntax.Node) []int {
	if m.over {
		return nil
	}
	var right []int
	for _, item := range nodes.Items(row) {
		right = append(right, m.symbol(item, m.homes[left]))
	}
	return right
}

// symbol of an item in a rule's body.
func (m *maker) symbol(item syntax.Node, home int) int {
	switch item.Kind {
	case syntax.Ref:
		return m.names[item.Text]
	case syntax.Lit:
		return turned(m.terms[item.Text])
	}
	m.counts[home]++
	m.add(m.made.Names[home]+"."+strconv.Itoa(m.counts[home]), item, home)
	return len(m.nodes) - 1
}
