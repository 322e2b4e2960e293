package draft_test

import (
	"fmt"
	"math/rand/v2"
	"slices"
	"strings"
	"testing"

	"primer/api"
	"primer/cnf"
	"primer/draft"
	"primer/format"
	"primer/plain"
	"primer/refactor"
	"primer/symbols"
	"primer/syntax"
)

// A line of texts, of which one is the draft's; those ahead of it, from the low one on, are gone back to, those behind it on to.
type line struct {
	texts   []string
	low, at int
}

func newLine() *line {
	return &line{texts: []string{""}}
}

func (l *line) draft() draft.Draft {
	return draft.Draft{Text: l.texts[l.at], Back: l.texts[l.low:l.at], Fore: backward(l.texts[l.at+1:])}
}

func (l *line) put(s string) {
	l.texts = append(l.texts[:l.at+1], s)
	l.move(1)
}

// move up or down the line, if there is a text.
func (l *line) move(by int) api.Errno {
	if l.at+by < l.low || l.at+by >= len(l.texts) {
		return api.ErrState
	}
	l.at += by
	l.low = max(l.low, l.at-api.MaxUndo)
	return api.OK
}

// expected: what should be answered of a text.
func expected(s string, quota int) (string, draft.Answer) {
	g, fault := syntax.Parse(s)
	if fault.Code != api.OK {
		return "", draft.Answer{Code: fault.Code, Line: fault.Line, Col: fault.Col}
	}
	for _, problem := range symbols.Check(g) {
		return "", draft.Answer{Code: problem.Code}
	}
	p, err := plain.Desugar(g)
	if err != api.OK {
		return "", draft.Answer{Code: err}
	}
	if _, err := cnf.Build(p); err != api.OK {
		return "", draft.Answer{Code: err}
	}
	text, _ := format.Text(g)
	if len(text) > quota || len(text) > api.MaxText {
		return "", draft.Answer{Code: api.ErrQuota}
	}
	return text, draft.Answer{}
}

// expectedChange: what should be answered of a change.
func expectedChange(s string, c draft.Change, quota int) (string, draft.Answer) {
	if s == "" {
		return "", draft.Answer{Code: api.ErrState}
	}
	g, _ := syntax.Parse(s)
	kinds := []func() (syntax.Grammar, api.Errno){
		func() (syntax.Grammar, api.Errno) { return refactor.Rename(g, c.Name, c.New) },
		func() (syntax.Grammar, api.Errno) { return refactor.Inline(g, c.Name) },
		func() (syntax.Grammar, api.Errno) { return refactor.Extract(g, c.Name, c.Row, c.From, c.N, c.New) },
		func() (syntax.Grammar, api.Errno) { return refactor.Trim(g) },
		func() (syntax.Grammar, api.Errno) { return refactor.Flatten(g) },
	}
	if c.Kind < 1 || c.Kind > len(kinds) {
		return "", draft.Answer{Code: api.ErrKind}
	}
	h, err := kinds[c.Kind-1]()
	if err != api.OK {
		return "", draft.Answer{Code: err}
	}
	text, _ := format.Text(h)
	return expected(text, quota)
}

func someName(r *rand.Rand) string {
	return []string{"a", "b", "c", "d", "a-1", "e"}[r.IntN(6)]
}

// body of a rule, in any form.
func body(r *rand.Rand, deep int) string {
	if deep == 0 || r.IntN(3) == 0 {
		return []string{"a", "b", "c", "'x'", `"y"`, `'\x7a'`, "", " "}[r.IntN(8)]
	}
	var l []string
	for range 1 + r.IntN(3) {
		l = append(l, body(r, deep-1))
	}
	s := strings.Join(l, []string{" ", " ", "\n", "|", " | ", "#\n"}[r.IntN(6)])
	return []string{"(" + s + ")", "[" + s + "]", "{" + s + "}", "(" + s + ")+", "(" + s + ") * ", "((" + s + "))?", s, s}[r.IntN(8)]
}

// someText: most are accepted.
func someText(r *rand.Rand) string {
	s := ""
	if r.IntN(4) == 0 {
		s = "% " + []string{"a", "b", "c"}[r.IntN(3)] + ";"
	}
	for _, name := range []string{"a", "b", "c"} {
		s += name + ":" + body(r, r.IntN(4)) + ";"
	}
	switch k := r.IntN(len(s)); r.IntN(12) {
	case 0:
		return s[:k] + s[k+1:]
	case 1:
		return s[:k] + string(rune(r.IntN(256))) + s[k:]
	}
	return s
}

func someChange(r *rand.Rand) draft.Change {
	return draft.Change{Kind: r.IntN(21) / 3, Name: someName(r), New: someName(r), Row: r.IntN(2), From: r.IntN(2), N: []int{0, 1, 1, 1, 2}[r.IntN(5)]}
}

func someQuota(r *rand.Rand) int {
	return []int{api.MaxText, api.MaxText, api.MaxText, r.IntN(100)}[r.IntN(4)]
}

// edit a draft and the line alike: what was done, what it is now, the answer, and what should have been answered.
func edit(r *rand.Rand, d draft.Draft, l *line) (string, draft.Draft, draft.Answer, draft.Answer) {
	was, quota := l.texts[l.at], someQuota(r)
	switch r.IntN(20) {
	case 0, 1, 2, 3, 4, 5:
		s := someText(r)
		next, answer := d.Set(s, quota)
		text, want := expected(s, quota)
		if want.Code == api.OK {
			l.put(text)
		}
		return "set", next, answer, want
	case 6, 7, 8, 9, 10, 11:
		c := someChange(r)
		next, answer := d.Change(c, quota)
		text, want := expectedChange(was, c, quota)
		if want.Code == api.OK {
			l.put(text)
		}
		return fmt.Sprint("change ", c.Kind), next, answer, want
	case 12, 13, 14, 15:
		next, err := d.Undo()
		return "undo", next, draft.Answer{Code: err}, draft.Answer{Code: l.move(-1)}
	}
	next, err := d.Redo()
	return "redo", next, draft.Answer{Code: err}, draft.Answer{Code: l.move(1)}
}

func TestMany(t *testing.T) {
	r := rand.New(rand.NewPCG(91, 92))
	counts := map[string]int{}
	for range 100 {
		l, d := newLine(), draft.Draft{}
		for range 300 {
			was := told(d)
			what, next, answer, want := edit(r, d, l)
			if answer != want || told(d) != was {
				t.Fatal(what, was, answer, want)
			}
			counts[fmt.Sprint(what, " ", answer.Code)]++
			if answer.Code != api.OK {
				if told(next) != nothing {
					t.Fatal(what, told(next))
				}
				continue
			}
			if told(next) != told(l.draft()) {
				t.Fatal(what, told(next), told(l.draft()))
			}
			if what != "undo" && what != "redo" {
				checkUndone(t, d, next)
			}
			d = next
		}
		if !draft.Right(d) {
			t.Fatal(told(d), "isn't right")
		}
	}
	t.Log(counts)
	for _, what := range []string{"set 0", "set 2", "set 10", "set 12", "change 0 7", "change 1 0", "change 1 14", "change 2 0", "change 2 15", "change 3 0", "change 3 1", "change 4 0", "change 5 0", "change 5 12", "change 6 7", "undo 0", "undo 16", "redo 0", "redo 16"} {
		if counts[what] < 20 {
			t.Error("one-sided edits:", what, counts[what])
		}
	}
}

// checkUndone: is Undo of what an edit made the Text that was, and Redo of that the new one? And is that accepted as it is?
func checkUndone(t *testing.T, d, next draft.Draft) {
	t.Helper()
	u, err := next.Undo()
	if err != api.OK || u.Text != d.Text {
		t.Fatal(told(next), told(u), err)
	}
	again, err := u.Redo()
	if err != api.OK || told(again) != told(next) {
		t.Fatal(told(next), told(again), err)
	}
	made, answer := draft.Accept(next.Text, len(next.Text))
	if answer != (draft.Answer{}) || made.Text != next.Text {
		t.Fatal(next.Text, "isn't accepted again as it is:", answer)
	}
	checkForms(t, next.Text, made)
}

// TestManyFull: of drafts with texts on both sides, as many as may be, too.
func TestManyFull(t *testing.T) {
	r := rand.New(rand.NewPCG(93, 94))
	for range 300 {
		back, fore := numbered(0, r.IntN(api.MaxUndo+1)), numbered(100, 100+r.IntN(api.MaxUndo+1))
		d := draft.Draft{Text: "t: ;\n", Back: back, Fore: fore}
		l := &line{texts: slices.Concat(back, []string{d.Text}, backward(fore)), at: len(back)}
		for range 40 {
			what, next, answer, want := edit(r, d, l)
			if answer != want || answer.Code == api.OK && told(next) != told(l.draft()) {
				t.Fatal(what, told(d), told(next), answer, want)
			}
			if answer.Code == api.OK {
				d = next
			}
		}
	}
}

// TestManyRight: a draft is right, where each of its texts is one that is accepted as it is.
func TestManyRight(t *testing.T) {
	r := rand.New(rand.NewPCG(95, 96))
	yes, no := 0, 0
	some := func() (string, bool) {
		s := someText(r)
		if text, answer := expected(s, api.MaxText); answer.Code == api.OK && r.IntN(8) > 0 {
			s = text
		}
		if r.IntN(8) == 0 {
			s = ""
		}
		text, answer := expected(s, api.MaxText)
		return s, s == "" || answer.Code == api.OK && text == s
	}
	for range 3000 {
		var d draft.Draft
		want := true
		add := func() string {
			s, ok := some()
			want = want && ok
			return s
		}
		d.Text = add()
		for range r.IntN(3) {
			d.Back = append(d.Back, add())
		}
		for range r.IntN(3) {
			d.Fore = append(d.Fore, add())
		}
		if got := draft.Right(d); got != want {
			t.Fatal(told(d), got)
		}
		if want {
			yes++
		} else {
			no++
		}
	}
	t.Log(yes, no)
	if yes < 300 || no < 300 {
		t.Error("one-sided drafts:", yes, no)
	}
}
