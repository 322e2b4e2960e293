package plain_test

import (
	"math"
	"strconv"
	"strings"
	"testing"

	"primer/api"
	"primer/plain"
)

func sound() plain.Grammar {
	return plain.Grammar{Start: 1, Rules: 2, Names: []string{"a", "b", "a.1"}, Terms: []string{"x", "y"}, Prods: []plain.Prod{
		{0, []int{1, -2, 2}}, {0, nil}, {2, []int{-1, 0, -2}}, {2, []int{-1, 0, -2}},
	}}
}

func texts(n int) []string {
	l := make([]string, n)
	for k := range l {
		l[k] = strconv.Itoa(k)
	}
	return l
}

func TestSound(t *testing.T) {
	for what, change := range map[string]func(p *plain.Grammar){
		"as it is":          func(p *plain.Grammar) {},
		"another start":     func(p *plain.Grammar) { p.Start = 2 },
		"the first start":   func(p *plain.Grammar) { p.Start = 0 },
		"no rules":          func(p *plain.Grammar) { p.Rules = 0 },
		"rules alone":       func(p *plain.Grammar) { p.Rules = 3 },
		"no productions":    func(p *plain.Grammar) { p.Prods = nil },
		"neither terms":     func(p *plain.Grammar) { p.Prods, p.Terms = nil, nil },
		"the last left":     func(p *plain.Grammar) { p.Prods = p.Prods[3:] },
		"any name":          func(p *plain.Grammar) { p.Names[0] = "\x00 " + strings.Repeat("a", api.MaxText) },
		"a term as a name":  func(p *plain.Grammar) { p.Names[0] = "x" },
		"a long term":       func(p *plain.Grammar) { p.Terms[0] = strings.Repeat("\xff", api.MaxLiteral) },
		"a wide production": func(p *plain.Grammar) { p.Prods[1].Right = make([]int, api.MaxSide) },
		"many names": func(p *plain.Grammar) {
			p.Names = texts(api.MaxProds)
			p.Start = api.MaxProds - 1
			p.Rules = api.MaxProds
		},
		"many terms":         func(p *plain.Grammar) { p.Terms = texts(api.MaxProds); p.Prods[2].Right[0] = -api.MaxProds },
		"many productions":   func(p *plain.Grammar) { p.Prods = make([]plain.Prod, api.MaxProds) },
		"one name alone":     func(p *plain.Grammar) { *p = plain.Grammar{Names: []string{"a"}} },
		"empty lists":        func(p *plain.Grammar) { p.Prods, p.Terms = []plain.Prod{{0, []int{}}}, []string{} },
		"the greatest right": func(p *plain.Grammar) { p.Prods[0].Right = []int{2, -2} },
	} {
		p := sound()
		if change(&p); !plain.Sound(p) {
			t.Error("not sound:", what)
		}
	}
}

func TestUnsound(t *testing.T) {
	for what, change := range map[string]func(p *plain.Grammar){
		"nothing":                       func(p *plain.Grammar) { *p = plain.Grammar{} },
		"no names":                      func(p *plain.Grammar) { *p = plain.Grammar{Names: []string{}, Start: -1} },
		"an empty name":                 func(p *plain.Grammar) { p.Names[2] = "" },
		"two names alike":               func(p *plain.Grammar) { p.Names[2] = "a" },
		"one name too many":             func(p *plain.Grammar) { p.Names = texts(api.MaxProds + 1) },
		"a start below":                 func(p *plain.Grammar) { p.Start = -1 },
		"a start behind":                func(p *plain.Grammar) { p.Start = 3 },
		"the least start":               func(p *plain.Grammar) { p.Start = math.MinInt },
		"the greatest start":            func(p *plain.Grammar) { p.Start = math.MaxInt },
		"rules below 0":                 func(p *plain.Grammar) { p.Rules = -1 },
		"more rules than names":         func(p *plain.Grammar) { p.Rules = 4 },
		"an empty term":                 func(p *plain.Grammar) { p.Terms[1] = "" },
		"two terms alike":               func(p *plain.Grammar) { p.Terms[1] = "x" },
		"a term too long":               func(p *plain.Grammar) { p.Terms[1] = strings.Repeat("x", api.MaxLiteral+1) },
		"one term too many":             func(p *plain.Grammar) { p.Terms = texts(api.MaxProds + 1) },
		"one production too many":       func(p *plain.Grammar) { p.Prods = make([]plain.Prod, api.MaxProds+1) },
		"one symbol too many":           func(p *plain.Grammar) { p.Prods[3].Right = make([]int, api.MaxSide+1) },
		"a left below":                  func(p *plain.Grammar) { p.Prods[0].Left = -1 },
		"a left behind":                 func(p *plain.Grammar) { p.Prods[3].Left = 3 },
		"a falling left":                func(p *plain.Grammar) { p.Prods[0].Left = 1 },
		"a falling left, further on":    func(p *plain.Grammar) { p.Prods[3].Left = 1 },
		"a nonterminal that isn't":      func(p *plain.Grammar) { p.Prods[0].Right[2] = 3 },
		"a terminal that isn't":         func(p *plain.Grammar) { p.Prods[3].Right[2] = -3 },
		"a terminal, and no terms":      func(p *plain.Grammar) { p.Terms = nil },
		"the greatest number":           func(p *plain.Grammar) { p.Prods[2].Right[1] = math.MaxInt },
		"the least number":              func(p *plain.Grammar) { p.Prods[2].Right[1] = math.MinInt },
		"the least left":                func(p *plain.Grammar) { p.Prods[0].Left = math.MinInt },
		"the greatest left":             func(p *plain.Grammar) { p.Prods[3].Left = math.MaxInt },
		"a name as its own number less": func(p *plain.Grammar) { p.Names = p.Names[:2] },
	} {
		p := sound()
		change(&p)
		if plain.Sound(p) || len(plain.Lines(p)) != 0 {
			t.Error("sound:", what)
		}
	}
}
