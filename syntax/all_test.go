package syntax_test

import (
	"math/rand/v2"
	"strings"
	"testing"

	"primer/api"
	"primer/lex"
	"primer/syntax"
)

// An open list of the slow reader: the bracket that opened it, the rows that are done, the items of the row that isn't.
type opened struct {
	sign  string
	rows  []syntax.Node
	items []syntax.Node
}

func one(kind int, kids []syntax.Node) syntax.Node {
	if len(kids) == 1 {
		return kids[0]
	}
	return syntax.Node{Kind: kind, Kids: kids}
}

func (o *opened) endRow() {
	o.rows = append(o.rows, one(syntax.Seq, o.items))
	o.items = nil
}

var (
	shutting = map[string]string{")": "(", "]": "[", "}": "{"}
	repeats  = map[string]int{"*": syntax.Star, "+": syntax.Plus, "?": syntax.Opt}
)

// slowParse is Parse by states and a stack: it goes from token to token and never looks ahead.
func slowParse(s string) (syntax.Grammar, lex.Fault) {
	tokens, fault := lex.Scan(s)
	if fault.Code != api.OK {
		return syntax.Grammar{}, fault
	}
	var g syntax.Grammar
	var stack []*opened
	state, repeatable := "first", false
	for k, token := range tokens {
		wrong := func(code api.Errno) (syntax.Grammar, lex.Fault) {
			return syntax.Grammar{}, lex.Fault{Line: token.Line, Col: token.Col, Code: code}
		}
		kind, sign := token.Kind, ""
		if kind == lex.Sign {
			sign = token.Text
		}
		if k == api.MaxTokens && kind != lex.End {
			return wrong(api.ErrLong)
		}
		switch {
		case state == "first" && sign == "%":
			state = "start"
		case state == "start" && kind == lex.Name:
			g.Start, state = token.Text, "started"
		case state == "started" && sign == ";":
			state = "rule"
		case state == "more" && kind == lex.End:
			return g, lex.Fault{}
		case (state == "first" || state == "rule" || state == "more") && kind == lex.Name:
			if len(g.Rules) == api.MaxRules {
				return wrong(api.ErrLong)
			}
			if g.Start == "" {
				g.Start = token.Text
			}
			g.Rules, state = append(g.Rules, syntax.Rule{Name: token.Text}), "named"
		case state == "named" && sign == ":":
			stack, state, repeatable = []*opened{{}}, "body", false
		case state == "body":
			top := stack[len(stack)-1]
			switch {
			case kind == lex.Name:
				top.items, repeatable = append(top.items, syntax.Node{Kind: syntax.Ref, Text: token.Text}), true
			case kind == lex.Literal:
				top.items, repeatable = append(top.items, syntax.Node{Kind: syntax.Lit, Text: token.Text}), true
			case repeats[sign] != 0 && repeatable:
				last := &top.items[len(top.items)-1]
				*last, repeatable = syntax.Node{Kind: repeats[sign], Kids: []syntax.Node{*last}}, false
			case sign == "|":
				top.endRow()
				repeatable = false
			case sign == "(" || sign == "[" || sign == "{":
				if len(stack) > api.MaxDepth {
					return wrong(api.ErrDeep)
				}
				stack, repeatable = append(stack, &opened{sign: sign}), false
			case shutting[sign] != "" && shutting[sign] == top.sign:
				top.endRow()
				n := one(syntax.Alt, top.rows)
				if sign == "]" {
					n = syntax.Node{Kind: syntax.Opt, Kids: []syntax.Node{n}}
				} else if sign == "}" {
					n = syntax.Node{Kind: syntax.Star, Kids: []syntax.Node{n}}
				}
				stack, repeatable = stack[:len(stack)-1], true
				below := stack[len(stack)-1]
				below.items = append(below.items, n)
			case sign == ";" && len(stack) == 1:
				top.endRow()
				g.Rules[len(g.Rules)-1].Body, state = one(syntax.Alt, top.rows), "more"
			default:
				return wrong(api.ErrForm)
			}
		default:
			return wrong(api.ErrForm)
		}
	}
	panic("no end")
}

func compare(t *testing.T, s string) bool {
	t.Helper()
	got, gotFault := syntax.Parse(s)
	want, wantFault := slowParse(s)
	if gotFault != wantFault || !syntax.Same(got, want) {
		t.Fatalf("%q:\n%v %v, not\n%v %v", s, shown(got), gotFault, shown(want), wantFault)
	}
	if len(got.Rules) > 0 && !equal(got, want) {
		t.Fatalf("%q: Same says so, but %v isn't %v", s, shown(got), shown(want))
	}
	if syntax.Proper(got) != (gotFault.Code == api.OK) {
		t.Fatalf("%q: proper", s)
	}
	return gotFault.Code == api.OK
}

func TestAllShortTexts(t *testing.T) {
	pieces := []string{"a", "'x'", "%", ":", ";", "|", "(", ")", "[", "]", "{", "}", "*", "+", "?", "!", "':'"}
	var each func(s string, more int)
	each = func(s string, more int) {
		compare(t, s)
		for _, piece := range pieces {
			if more > 0 {
				each(s+piece+" ", more-1)
			}
		}
	}
	each("", 3)
	each("a:", 4)
	each("a:(", 3)
	each("a:'x'[b", 3)
	each("%a;a:;", 3)
}

func write(r *rand.Rand, b *strings.Builder, deep int) {
	for k := range 1 + r.IntN(3) {
		if k > 0 {
			b.WriteString("|")
		}
		for range r.IntN(4) {
			at := r.IntN(5)
			switch {
			case deep > 0 && at < 3:
				b.WriteString("([{"[at : at+1])
				write(r, b, deep-1)
				b.WriteString(")]}"[at : at+1])
			case at == 3:
				b.WriteString([]string{"'x'", `"\x00"`, "'('"}[r.IntN(3)])
			default:
				b.WriteString([]string{" a ", " b ", "# note\n b-1\n"}[r.IntN(3)])
			}
			b.WriteString([]string{"", "", "", "*", "+", "?"}[r.IntN(6)])
		}
	}
}

func TestManyTexts(t *testing.T) {
	r := rand.New(rand.NewPCG(3, 4))
	good := 0
	for k := range 5000 {
		var b strings.Builder
		if r.IntN(3) == 0 {
			b.WriteString("%a;")
		}
		for range 1 + r.IntN(4) {
			b.WriteString("a:")
			write(r, &b, r.IntN(6))
			b.WriteString(";")
		}
		s := b.String()
		if k%2 == 1 {
			at := r.IntN(len(s))
			s = s[:at] + []string{"", "*", "|", ")", "(", "%", ":", ";", "'", "a", "]"}[r.IntN(11)] + s[min(len(s), at+r.IntN(3)):]
		}
		if compare(t, s) {
			good++
		}
	}
	if good < 2500 || good > 4750 {
		t.Error("one-sided texts:", good)
	}
}

// TestDepths: brackets around brackets, up to where they are too deep, in all their kinds.
func TestDepths(t *testing.T) {
	r := rand.New(rand.NewPCG(5, 6))
	for range 2000 {
		open, shut := "", ""
		for range api.MaxDepth - 1 + r.IntN(3) {
			at := r.IntN(3)
			open += []string{"", "b", "|", "() "}[r.IntN(4)] + "([{"[at:at+1]
			shut = ")]}"[at:at+1] + []string{"", "b", "|", "*", "[]"}[r.IntN(5)] + shut
		}
		compare(t, "a:"+open+"'x'"+shut+";")
	}
}

// TestNewMemory: no answer shares its lists with another one.
func TestNewMemory(t *testing.T) {
	s := "a:b ('x'|b)* [b 'x'];b:;"
	g, _ := syntax.Parse(s)
	kept, _ := syntax.Parse(s)
	var spoil func(n *syntax.Node)
	spoil = func(n *syntax.Node) {
		for k := range n.Kids {
			spoil(&n.Kids[k])
		}
		n.Kind, n.Text = 99, "spoilt"
		_ = append(n.Kids, syntax.Node{Kind: 98})
	}
	for k := range g.Rules {
		spoil(&g.Rules[k].Body)
	}
	again, _ := syntax.Parse(s)
	if !syntax.Same(kept, again) || !syntax.Proper(kept) {
		t.Error("shared")
	}
	n := kept.Rules[0].Body
	names := syntax.Refs(n)
	names[0] = "spoilt"
	if syntax.Refs(n)[0] != "b" {
		t.Error("shared names")
	}
}
