package syntax

import (
	"primer/api"
	"primer/lex"
)

// A parser has the tokens of a text, where it has come to, and how many brackets are open there.
type parser struct {
	tokens []lex.Token
	at     int
	depth  int
}

// parse catches what throw throws; whatever else is thrown is a mistake of this package, and goes on.
func parse(tokens []lex.Token) (g Grammar, fault lex.Fault) {
	defer func() {
		r := recover()
		if r == nil {
			return
		}
		wrong, ok := r.(lex.Fault)
		if !ok {
			panic(r)
		}
		g, fault = Grammar{}, wrong
	}()
	p := parser{tokens: tokens}
	return p.grammar(), lex.Fault{}
}

// throw ends the parse at the token that it has come to.
func (p *parser) throw(code api.Errno) {
	t := p.tokens[p.at]
	panic(lex.Fault{Line: t.Line, Col: t.Col, Code: code})
}

// take goes on behind a token; never behind the end.
func (p *parser) take() string {
	text := p.tokens[p.at].Text
	p.at++
	// Told as soon as the token is met: it comes ahead of all else that may be wrong there.
	if p.at == api.MaxTokens && !p.is(lex.End) {
		p.throw(api.ErrLong)
	}
	return text
}

func (p *parser) is(kind int) bool {
	return p.tokens[p.at].Kind == kind
}

func (p *parser) isSign(sign string) bool {
	return p.is(lex.Sign) && p.tokens[p.at].Text == sign
}

// skip takes a sign, if it is the next token.
func (p *parser) skip(sign string) bool {
	ok := p.isSign(sign)
	if ok {
		p.take()
	}
	return ok
}

// need takes a sign that must stand there.
func (p *parser) need(sign string) {
	if !p.skip(sign) {
		p.throw(api.ErrForm)
	}
}

func (p *parser) name() string {
	if !p.is(lex.Name) {
		p.throw(api.ErrForm)
	}
	return p.take()
}

func (p *parser) grammar() Grammar {
	var g Grammar
	chosen := p.skip("%")
	if chosen {
		g.Start = p.name()
		p.need(";")
	}
	for len(g.Rules) == 0 || !p.is(lex.End) {
		if len(g.Rules) == api.MaxRules && p.is(lex.Name) {
			p.throw(api.ErrLong)
		}
		g.Rules = append(g.Rules, p.rule())
	}
	if !chosen {
		g.Start = g.Rules[0].Name
	}
	return g
}

func (p *parser) rule() Rule {
	name := p.name()
	p.need(":")
	body := p.alternation()
	p.need(";")
	return Rule{Name: name, Body: body}
}

func (p *parser) alternation() Node {
	rows := []Node{p.row()}
	for p.skip("|") {
		rows = append(rows, p.row())
	}
	return joined(Alt, rows)
}

// row goes on as long as items do; what must stand behind it is for those to tell who asked for it.
func (p *parser) row() Node {
	var items []Node
	for p.is(lex.Name) || p.is(lex.Literal) || closing(p.tokens[p.at]) != "" {
		items = append(items, p.item())
	}
	return joined(Seq, items)
}

// joined: one alone stands for itself.
func joined(kind int, kids []Node) Node {
	if len(kids) == 1 {
		return kids[0]
	}
	return Node{Kind: kind, Kids: kids}
}

func (p *parser) item() Node {
	n := p.atom()
	switch {
	case p.skip("*"):
		return around(Star, n)
	case p.skip("+"):
		return around(Plus, n)
	case p.skip("?"):
		return around(Opt, n)
	}
	return n
}

func around(kind int, n Node) Node {
	return Node{Kind: kind, Kids: []Node{n}}
}

func (p *parser) atom() Node {
	switch {
	case p.is(lex.Name):
		return Node{Kind: Ref, Text: p.take()}
	case p.is(lex.Literal):
		return Node{Kind: Lit, Text: p.take()}
	}
	return p.bracketed()
}

func (p *parser) bracketed() Node {
	last := closing(p.tokens[p.at])
	if p.depth == api.MaxDepth {
		p.throw(api.ErrDeep)
	}
	p.take()
	p.depth++
	n := p.alternation()
	p.need(last)
	p.depth--
	switch last {
	case "]":
		return around(Opt, n)
	case "}":
		return around(Star, n)
	}
	return n
}

// closing tells the sign that closes what a token opens; none, where it opens nothing.
func closing(t lex.Token) string {
	if t.Kind != lex.Sign {
		return ""
	}
	switch t.Text {
	case "(":
		return ")"
	case "[":
		return "]"
	case "{":
		return "}"
	}
	return ""
}
