package plain

import (
	"cmp"
	"slices"

	"primer/api"
)

// Sound: may there be such a grammar?
func Sound(p Grammar) bool {
	names := len(p.Names)
	if max(names, len(p.Terms), len(p.Prods)) > api.MaxProds {
		return false
	}
	return p.nonterminal(p.Start) && 0 <= p.Rules && p.Rules <= names && distinct(p.Names) && distinct(p.Terms) &&
		!slices.ContainsFunc(p.Terms, long) && !slices.ContainsFunc(p.Prods, p.wrong) && slices.IsSortedFunc(p.Prods, byLeft)
}

func (p Grammar) nonterminal(n int) bool {
	return 0 <= n && n < len(p.Names)
}

func (p Grammar) wrong(prod Prod) bool {
	missing := func(symbol int) bool { return symbol < -len(p.Terms) || symbol >= len(p.Names) }
	return !p.nonterminal(prod.Left) || len(prod.Right) > api.MaxSide || slices.ContainsFunc(prod.Right, missing)
}

// distinct: are no two of these texts alike, and none empty?
func distinct(texts []string) bool {
	places := numbers(texts)
	_, empty := places[""]
	return len(places) == len(texts) && !empty
}

func long(term string) bool {
	return len(term) > api.MaxLiteral
}

func byLeft(a, b Prod) int {
	return cmp.Compare(a.Left, b.Left)
}
