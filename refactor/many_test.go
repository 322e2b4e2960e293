package refactor_test

import (
	"math/rand/v2"
	"slices"
	"strconv"
	"strings"
	"testing"

	"primer/api"
	"primer/format"
	"primer/lang"
	"primer/lex"
	"primer/plain"
	"primer/refactor"
	"primer/symbols"
	"primer/syntax"
)

// Names some of which are the first ones that a new nonterminal would have.
var names = []string{"a", "b", "a-1", "b-2", "c", "d"}

func random(r *rand.Rand, deep, rules int) syntax.Node {
	if deep == 0 || r.IntN(4) == 0 {
		if r.IntN(2) == 0 {
			return ref(names[r.IntN(rules)])
		}
		return lit([]string{"x", "y", "'"}[r.IntN(3)])
	}
	n := syntax.Node{Kind: syntax.Seq + r.IntN(5)}
	count := 1
	switch n.Kind {
	case syntax.Seq:
		count = []int{0, 2, 2, 3}[r.IntN(4)]
	case syntax.Alt:
		count = 2 + r.IntN(2)
	}
	for range count {
		n.Kids = append(n.Kids, random(r, deep-1, rules))
	}
	return n
}

// someGrammar is sound, and in the one form.
func someGrammar(r *rand.Rand) syntax.Grammar {
	rules := 1 + r.IntN(len(names))
	g := syntax.Grammar{Start: names[r.IntN(rules)]}
	for k := range rules {
		g.Rules = append(g.Rules, syntax.Rule{Name: names[k], Body: random(r, r.IntN(4), rules)})
	}
	return g
}

// text of a grammar: its start, and of each rule the name and the body that is told.
func text(start string, rules []string, body func(name string) string) string {
	s := "%" + start + ";"
	for _, name := range rules {
		s += name + ":" + body(name) + ";"
	}
	return s
}

func namesOf(g syntax.Grammar) []string {
	var l []string
	for _, r := range g.Rules {
		l = append(l, r.Name)
	}
	return l
}

func bodyOf(g syntax.Grammar, name string) syntax.Node {
	return g.Rules[slices.Index(namesOf(g), name)].Body
}

// retold: a text in which something else may stand for each name.
func retold(s string, tell func(name string) string) string {
	tokens, _ := lex.Scan(s)
	var l []string
	for _, t := range tokens {
		switch t.Kind {
		case lex.Name:
			l = append(l, tell(t.Text))
		case lex.Literal:
			l = append(l, lex.Quote(t.Text))
		default:
			l = append(l, t.Text)
		}
	}
	return strings.Join(l, " ")
}

// told: what a grammar of a text should be answered as: as it is, or as too much.
func told(t *testing.T, s string) string {
	g := parse(t, s)
	if _, err := plain.Desugar(g); err == api.ErrQuota {
		return wrong(err)
	}
	return shown(g, api.OK)
}

func slowRename(g syntax.Grammar, old, fresh string) string {
	now := func(name string) string {
		if name == old {
			return fresh
		}
		return name
	}
	return retold(text(g.Start, namesOf(g), func(name string) string { return format.Body(bodyOf(g, name)) }), now)
}

func slowInline(g syntax.Grammar, name string) string {
	rules := slices.DeleteFunc(namesOf(g), func(n string) bool { return n == name })
	return text(g.Start, rules, func(n string) string {
		return retold(format.Body(bodyOf(g, n)), func(ref string) string {
			if ref == name {
				return "(" + format.Body(bodyOf(g, name)) + ")"
			}
			return ref
		})
	})
}

// rowsOf a body: the texts of each row's items, each between brackets.
func rowsOf(body syntax.Node) [][]string {
	rows := []syntax.Node{body}
	if body.Kind == syntax.Alt {
		rows = body.Kids
	}
	var l [][]string
	for _, row := range rows {
		items := []syntax.Node{row}
		if row.Kind == syntax.Seq {
			items = row.Kids
		}
		var texts []string
		for _, item := range items {
			texts = append(texts, "("+format.Body(item)+")")
		}
		l = append(l, texts)
	}
	return l
}

func slowExtract(g syntax.Grammar, rule string, row, from, n int, name string) string {
	taken := ""
	return text(g.Start, append(namesOf(g), name), func(of string) string {
		if of == name {
			return taken
		}
		var rows []string
		for k, items := range rowsOf(bodyOf(g, of)) {
			if of == rule && k == row {
				taken = strings.Join(items[from:from+n], " ")
				items = append(append(slices.Clone(items[:from]), name), items[from+n:]...)
			}
			rows = append(rows, strings.Join(items, " "))
		}
		return strings.Join(rows, "|")
	})
}

// slowLiving: the names of the rules that derive a word, tried as often as there are rules.
func slowLiving(g syntax.Grammar) []string {
	var live []string
	for range g.Rules {
		for _, r := range g.Rules {
			if !slices.Contains(live, r.Name) && !isDead(r.Body, live) {
				live = append(live, r.Name)
			}
		}
	}
	return live
}

func isDead(n syntax.Node, live []string) bool {
	dead := func(kid syntax.Node) bool { return isDead(kid, live) }
	alive := func(kid syntax.Node) bool { return !isDead(kid, live) }
	switch n.Kind {
	case syntax.Ref:
		return !slices.Contains(live, n.Text)
	case syntax.Seq, syntax.Plus:
		return slices.ContainsFunc(n.Kids, dead)
	case syntax.Alt:
		return !slices.ContainsFunc(n.Kids, alive)
	}
	return false
}

// trimOnce changes the first node of a body in which something is to be changed, from the top on; false, when there is none.
func trimOnce(n *syntax.Node, live []string) bool {
	for k, kid := range n.Kids {
		if !isDead(kid, live) {
			continue
		}
		switch {
		case n.Kind == syntax.Opt || n.Kind == syntax.Star:
			*n = many(syntax.Seq)
			return true
		case n.Kind == syntax.Alt && len(n.Kids) == 2:
			*n = n.Kids[1-k]
			return true
		case n.Kind == syntax.Alt:
			n.Kids = slices.Delete(slices.Clone(n.Kids), k, k+1)
			return true
		}
	}
	for k := range n.Kids {
		if trimOnce(&n.Kids[k], live) {
			return true
		}
	}
	return false
}

func slowTrim(g syntax.Grammar) string {
	live := slowLiving(g)
	if !slices.Contains(live, g.Start) {
		return wrong(api.ErrStart)
	}
	var left syntax.Grammar
	for _, r := range g.Rules {
		if body := copied(r.Body); slices.Contains(live, r.Name) {
			for trimOnce(&body, live) {
			}
			left.Rules = append(left.Rules, syntax.Rule{Name: r.Name, Body: body})
		}
	}
	called := []string{g.Start}
	for k := 0; k < len(called); k++ {
		for _, name := range syntax.Refs(bodyOf(left, called[k])) {
			if !slices.Contains(called, name) {
				called = append(called, name)
			}
		}
	}
	left.Start = g.Start
	left.Rules = slices.DeleteFunc(left.Rules, func(r syntax.Rule) bool { return !slices.Contains(called, r.Name) })
	return shown(left, api.OK)
}

func slowFlatten(g syntax.Grammar) string {
	p, _ := plain.Desugar(g)
	flat := namesOf(g)
	for _, name := range p.Names[p.Rules:] {
		home := name[:strings.Index(name, ".")]
		n := 1
		for slices.Contains(flat, home+"-"+strconv.Itoa(n)) {
			n++
		}
		flat = append(flat, home+"-"+strconv.Itoa(n))
	}
	rows := map[string][]string{}
	for k, line := range plain.Lines(p) {
		_, right, _ := strings.Cut(line, "->")
		for k, name := range slices.Backward(p.Names) { // "a.12" ahead of "a.1"
			if k >= p.Rules {
				right = strings.ReplaceAll(right, name, flat[k])
			}
		}
		left := flat[p.Prods[k].Left]
		rows[left] = append(rows[left], right)
	}
	return text(g.Start, flat, func(name string) string { return strings.Join(rows[name], "|") })
}

// sameWords: have two grammars the same words, as far as they are looked at? Where there are too many words, fewer are.
func sameWords(t *testing.T, g, h syntax.Grammar) bool {
	p, err1 := plain.Desugar(g)
	q, err2 := plain.Desugar(h)
	if err1 != api.OK || err2 != api.OK {
		t.Fatal(err1, err2)
	}
	for most := 5; most >= 0; most-- {
		if same, err := lang.Same(p, q, most); err == api.OK {
			return same
		}
	}
	return true
}

// A trial of a change: what came, and what should.
type trial struct {
	name, want string
	made       syntax.Grammar
	err        api.Errno
}

func trials(t *testing.T, r *rand.Rand, g syntax.Grammar) []trial {
	rule := g.Rules[r.IntN(len(g.Rules))]
	rows := rowsOf(rule.Body)
	row := r.IntN(len(rows))
	from, n := r.IntN(len(rows[row])+1), 1+r.IntN(2)
	inline, extract := "", wrong(api.ErrArg)
	switch {
	case rule.Name == g.Start:
		inline = wrong(api.ErrStart)
	case slices.Contains(symbols.Recursive(g), rule.Name):
		inline = wrong(api.ErrLoop)
	default:
		inline = told(t, slowInline(g, rule.Name))
	}
	if from+n <= len(rows[row]) {
		extract = told(t, slowExtract(g, rule.Name, row, from, n, "new"))
	}
	var l []trial
	add := func(name, want string, change func() (syntax.Grammar, api.Errno)) {
		made, err := change()
		l = append(l, trial{name, want, made, err})
	}
	add("Rename", told(t, slowRename(g, rule.Name, "new")), func() (syntax.Grammar, api.Errno) { return refactor.Rename(g, rule.Name, "new") })
	add("Inline", inline, func() (syntax.Grammar, api.Errno) { return refactor.Inline(g, rule.Name) })
	add("Extract", extract, func() (syntax.Grammar, api.Errno) { return refactor.Extract(g, rule.Name, row, from, n, "new") })
	add("Trim", slowTrim(g), func() (syntax.Grammar, api.Errno) { return refactor.Trim(g) })
	add("Flatten", told(t, slowFlatten(g)), func() (syntax.Grammar, api.Errno) { return refactor.Flatten(g) })
	return l
}

// TestManyGrammars: each change is the one that is told another way, and leaves the words as they are.
func TestManyGrammars(t *testing.T) {
	r := rand.New(rand.NewPCG(17, 18))
	done := map[string]int{}
	for range 4000 {
		g := someGrammar(r)
		if _, err := plain.Desugar(g); err != api.OK {
			continue
		}
		before := shown(g, api.OK)
		for _, c := range trials(t, r, g) {
			if got := shown(c.made, c.err); got != c.want {
				t.Fatalf("%s of %s:\n%s, not\n%s", c.name, before, got, c.want)
			}
			if shown(g, api.OK) != before {
				t.Fatal(c.name, "changes", before)
			}
			if c.err == api.OK {
				done[c.name]++
				if !sameWords(t, g, c.made) {
					t.Fatalf("%s of %s has other words: %s", c.name, before, shown(c.made, c.err))
				}
			}
		}
	}
	for _, name := range []string{"Rename", "Inline", "Extract", "Trim", "Flatten"} {
		if done[name] < 500 {
			t.Error("one-sided grammars:", name, done[name])
		}
	}
}
