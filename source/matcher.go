package source

import (
	"slices"

	"primer/syntax"
)

// A state takes one node, where its leaf is a Ref or a Lit, and goes on to others; any other one goes on by itself.
type state struct {
	leaf syntax.Node
	next []int
}

const end = 0 // the state behind all of a body

// A matcher goes through a body for all ways at once, so that the time it takes is no more than that body's nodes times the kids.
type matcher struct {
	states []state
	start  int
	met    []int // of each state when it was come to last
	turn   int
}

func newMatcher(body syntax.Node) *matcher {
	m := matcher{states: []state{{}}}
	m.start = m.lay(body, end)
	m.met = make([]int, len(m.states))
	return &m
}

// lay a node's states ahead of what comes next: from which one it begins.
func (m *matcher) lay(n syntax.Node, next int) int {
	switch n.Kind {
	case syntax.Seq:
		for _, kid := range slices.Backward(n.Kids) {
			next = m.lay(kid, next)
		}
		return next
	case syntax.Alt:
		return m.fork(n.Kids, next)
	case syntax.Opt:
		return m.also(m.fork(n.Kids, next), next)
	case syntax.Star:
		again, _ := m.repeat(n.Kids[0], next)
		return again
	case syntax.Plus:
		_, once := m.repeat(n.Kids[0], next)
		return once
	}
	return m.add(n, next)
}

// fork goes to each of some nodes.
func (m *matcher) fork(kids []syntax.Node, next int) int {
	fork := m.add(syntax.Node{})
	for _, kid := range kids {
		m.also(fork, m.lay(kid, next))
	}
	return fork
}

// repeat a node: from where it comes again or not, and from where it comes first.
func (m *matcher) repeat(kid syntax.Node, next int) (again, once int) {
	again = m.add(syntax.Node{}, next)
	once = m.lay(kid, again)
	return m.also(again, once), once
}

func (m *matcher) add(leaf syntax.Node, next ...int) int {
	m.states = append(m.states, state{leaf, next})
	return len(m.states) - 1
}

// also: one more to go on to.
func (m *matcher) also(from, next int) int {
	m.states[from].next = append(m.states[from].next, next)
	return from
}

func (m *matcher) matches(kids []Node) bool {
	at := m.spread(m.start)
	for _, kid := range kids {
		var next []int
		for _, k := range at {
			if takes(m.states[k].leaf, kid) {
				next = append(next, m.states[k].next...)
			}
		}
		at = m.spread(next...)
	}
	return slices.Contains(at, end)
}

// spread: the states that are come to from some, these too, without a node; each once.
func (m *matcher) spread(from ...int) []int {
	m.turn++
	var at []int
	for todo := slices.Clone(from); len(todo) > 0; {
		k := todo[len(todo)-1]
		todo = todo[:len(todo)-1]
		if m.met[k] == m.turn {
			continue
		}
		m.met[k] = m.turn
		at = append(at, k)
		if m.states[k].leaf.Kind == 0 {
			todo = append(todo, m.states[k].next...)
		}
	}
	return at
}

func takes(leaf syntax.Node, n Node) bool {
	return leaf.Kind != 0 && leaf.Text == n.Name && (leaf.Kind == syntax.Lit) == n.Lit
}
