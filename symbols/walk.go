package symbols

import "slices"

// A walk goes along calls, to each rule once at most. It keeps its way in a list: calls may go deeper than functions can.
type walk struct {
	left [][]int // the calls of each rule that it hasn't gone along
	met  []bool
}

func newWalk(calls [][]int) *walk {
	return &walk{left: slices.Clone(calls), met: make([]bool, len(calls))}
}

// from: what is come to from a rule, itself too, but what was met before: each rule behind those that were come to from it.
func (w *walk) from(rule int) []int {
	var way, done []int
	enter := func(k int) {
		if !w.met[k] {
			w.met[k] = true
			way = append(way, k)
		}
	}
	enter(rule)
	for len(way) > 0 {
		k := way[len(way)-1]
		if len(w.left[k]) > 0 {
			next := w.left[k][0]
			w.left[k] = w.left[k][1:]
			enter(next)
			continue
		}
		way = way[:len(way)-1]
		done = append(done, k)
	}
	return done
}

// groups: for each rule the same number as for those that are come to from it and come to it, and for no others.
func groups(calls [][]int) []int {
	var order []int
	forth := newWalk(calls)
	for k := range calls {
		order = append(order, forth.from(k)...)
	}
	group := make([]int, len(calls))
	back := newWalk(turned(calls))
	// Who comes to a rule stands behind it in the order, or comes back from it: so, from the end on, what is new is its group.
	for _, last := range slices.Backward(order) {
		for _, k := range back.from(last) {
			group[k] = last
		}
	}
	return group
}

// turned: for each rule those that call it.
func turned(calls [][]int) [][]int {
	l := make([][]int, len(calls))
	for k, called := range calls {
		for _, to := range called {
			l[to] = append(l[to], k)
		}
	}
	return l
}
