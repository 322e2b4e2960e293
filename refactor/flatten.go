package refactor

import (
	"slices"
	"strconv"
	"strings"

	"primer/nodes"
	"primer/plain"
	"primer/syntax"
)

// flatNames: a name for each nonterminal; whether it is a good one isn't looked at.
func flatNames(p plain.Grammar) []string {
	names := slices.Clone(p.Names[:p.Rules])
	taken := make(map[string]struct{})
	for _, name := range names {
		taken[name] = struct{}{}
	}
	for _, made := range p.Names[p.Rules:] {
		home, _, _ := strings.Cut(made, ".") // no rule's name has one
		name := free(home, taken)
		taken[name] = struct{}{}
		names = append(names, name)
	}
	return names
}

func free(home string, taken map[string]struct{}) string {
	for n := 1; ; n++ {
		name := home + "-" + strconv.Itoa(n)
		if _, ok := taken[name]; !ok {
			return name
		}
	}
}

// flat: a rule for each nonterminal, by these names.
func flat(p plain.Grammar, names []string) syntax.Grammar {
	rows := make([][]syntax.Node, len(names))
	for _, prod := range p.Prods {
		var items []syntax.Node
		for _, symbol := range prod.Right {
			if symbol < 0 {
				items = append(items, syntax.Node{Kind: syntax.Lit, Text: p.Terms[-1-symbol]})
			} else {
				items = append(items, reference(names[symbol]))
			}
		}
		rows[prod.Left] = append(rows[prod.Left], nodes.Row(items))
	}
	made := syntax.Grammar{Start: names[p.Start]}
	for k, name := range names {
		made.Rules = append(made.Rules, syntax.Rule{Name: name, Body: nodes.Body(rows[k])})
	}
	return made
}
