package symbols

import (
	"slices"

	"primer/syntax"
)

const noRule = -1 // the place of a rule that there isn't

// places of rules by their names: of each name that of its first rule.
type places map[string]int

func firsts(rules []syntax.Rule) places {
	p := make(places)
	for k, r := range slices.Backward(rules) { // so that the first one of a name is the last to be written
		p[r.Name] = k
	}
	return p
}

func (p places) of(name string) int {
	if k, ok := p[name]; ok {
		return k
	}
	return noRule
}

// all: the places of names that have one, each once, rising.
func (p places) all(names []string) []int {
	var l []int
	for _, name := range names {
		if k := p.of(name); k != noRule {
			l = append(l, k)
		}
	}
	slices.Sort(l)
	return slices.Compact(l)
}
