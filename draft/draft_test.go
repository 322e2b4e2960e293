package draft_test

import (
	"fmt"
	"math"
	"reflect"
	"slices"
	"strings"
	"testing"

	"primer/api"
	"primer/cnf"
	"primer/draft"
	"primer/format"
	"primer/lex"
	"primer/plain"
	"primer/refactor"
	"primer/syntax"
)

// told: a draft as a text, and the same text for the same drafts alone.
func told(d draft.Draft) string {
	return fmt.Sprintf("%q %q %q", d.Text, slices.Concat(d.Back), slices.Concat(d.Fore))
}

var nothing = told(draft.Draft{})

// set: the draft of some texts, one after the other, all of which have to be accepted.
func set(t *testing.T, texts ...string) draft.Draft {
	t.Helper()
	var d draft.Draft
	for _, s := range texts {
		next, answer := d.Set(s, api.MaxText)
		if answer != (draft.Answer{}) {
			t.Fatal(s, answer)
		}
		d = next
	}
	return d
}

func undo(t *testing.T, d draft.Draft, times int) draft.Draft {
	t.Helper()
	for range times {
		next, err := d.Undo()
		if err != api.OK {
			t.Fatal(told(d), err)
		}
		d = next
	}
	return d
}

// numbered texts that are accepted, as they are.
func numbered(from, end int) []string {
	var l []string
	for k := from; k < end; k++ {
		l = append(l, fmt.Sprintf("a: '%d';\n", k))
	}
	return l
}

func backward(texts []string) []string {
	l := slices.Clone(texts)
	slices.Reverse(l)
	return l
}

// rows: so many, each as told.
func rows(n int, row func(k int) string) string {
	var l []string
	for k := range n {
		l = append(l, row(k))
	}
	return strings.Join(l, "|")
}

// long: a literal of as many bytes as may be, in the text too.
var long = "'" + strings.Repeat(`\x01`, api.MaxLiteral) + "'"

// wide: so many rows of as many long literals as may be, without the blanks that the one form has between; 62 of them are a text of MaxText bytes.
func wide(n int) string {
	return "a:" + rows(n, func(int) string { return strings.Repeat(long, api.MaxSide) }) + ";"
}

// ring of rules, each of which has so many others in a row, and may be empty: each of them comes by units to all others.
func ring(rules, width int) string {
	var b strings.Builder
	for k := range rules {
		fmt.Fprintf(&b, "r%d:", k)
		for n := range width {
			fmt.Fprintf(&b, " r%d", (k+n+1)%rules)
		}
		b.WriteString("|;\n")
	}
	return b.String()
}

func TestAccept(t *testing.T) {
	many := "a: " + rows(api.MaxProds, func(k int) string { return fmt.Sprintf("'%d'", k) }) + ";\n"
	for text, want := range map[string]string{
		"a:;":                                 "a: ;\n",
		"a:'x'|;":                             "a: 'x'|;\n",
		"a : ( 'x' b )* | ; # note\nb:\"'\";": "a: {'x' b}|;\nb: \"'\";\n",
		"%b; a: b+ ; b: [a 'y'] 'x'? ;":       "%b;\na: b+;\nb: [a 'y'] 'x'?;\n",
		"%a;a:((a))|'\\x61';":                 "a: a|'a';\n",
		many:                                  many,
		"a:" + strings.Repeat("'x'", api.MaxSide) + ";": "a: " + strings.Repeat("'x' ", api.MaxSide-1) + "'x';\n",
	} {
		for _, quota := range []int{len(want), len(want) + 1, api.MaxText, api.MaxText + 1, math.MaxInt} {
			made, answer := draft.Accept(text, quota)
			if answer != (draft.Answer{}) || made.Text != want {
				t.Fatalf("%s, %d: %q %v", text, quota, made.Text, answer)
			}
			checkForms(t, text, made)
			again, answer := draft.Accept(made.Text, quota)
			if answer != (draft.Answer{}) || !reflect.DeepEqual(again, made) {
				t.Error(text, "isn't accepted again as it is:", answer)
			}
		}
		for _, quota := range []int{len(want) - 1, 1, 0, -1, math.MinInt} {
			if made, answer := draft.Accept(text, quota); answer != (draft.Answer{Code: api.ErrQuota}) || !reflect.DeepEqual(made, draft.Made{}) {
				t.Error(text, quota, made.Text, answer)
			}
		}
	}
}

// checkForms: is all that was made of a text what the layers below tell of it?
func checkForms(t *testing.T, s string, made draft.Made) {
	t.Helper()
	g, _ := syntax.Parse(s)
	p, _ := plain.Desugar(g)
	n, _ := cnf.Build(p)
	text, _ := format.Text(g)
	if !syntax.Same(made.Source, g) || !reflect.DeepEqual(made.Plain, p) || !reflect.DeepEqual(made.Normal, n) || made.Text != text {
		t.Fatal(s, made)
	}
}

// A refusal is a text that isn't accepted, and the answer.
type refusal struct {
	what, text string
	quota      int
	want       draft.Answer
}

// faulty: what layer 5's Parse refuses, with its place.
func faulty() []refusal {
	most := strings.Repeat(" ", api.MaxText)
	rules := ""
	for k := range api.MaxRules {
		rules += fmt.Sprintf("a%d:;", k)
	}
	return []refusal{
		{"empty", "", 9, draft.Answer{api.ErrForm, 1, 1}},
		{"a rule that doesn't end", "a:'x'\n ", 9, draft.Answer{api.ErrForm, 2, 2}},
		{"a bad byte", "a:\n\n  &;", 9, draft.Answer{api.ErrForm, 3, 3}},
		{"too long", most + " ", 9, draft.Answer{api.ErrLong, 0, 0}},
		{"nothing in as long a text as may be", most, 9, draft.Answer{api.ErrForm, 1, api.MaxText + 1}},
		{"a name too long", "a: " + strings.Repeat("n", api.MaxName+1) + ";", 9, draft.Answer{api.ErrLong, 1, 4}},
		{"a rule too many", rules + "b:;", 9, draft.Answer{api.ErrLong, 1, len(rules) + 1}},
		{"too deep", "a:" + strings.Repeat("(", api.MaxDepth+1), 9, draft.Answer{api.ErrDeep, 1, 3 + api.MaxDepth}},
		{"a fault behind a problem", "a:b;a:;;", 0, draft.Answer{api.ErrForm, 1, 8}},
	}
}

// problematic: what layer 7's Check refuses.
func problematic() []refusal {
	return []refusal{
		{"a name without a rule", "a:'x'|\nb;", 9, draft.Answer{Code: api.ErrNone}},
		{"two rules of a name", "a:;\na:;", 9, draft.Answer{Code: api.ErrExists}},
		{"no rule of the start's name", "%b;a:;", 9, draft.Answer{Code: api.ErrStart}},
		{"several, a name first", "%d;a:b;a:c;", 9, draft.Answer{Code: api.ErrNone}},
		{"several, two rules first", "%d;a:;a:b;", 9, draft.Answer{Code: api.ErrExists}},
		{"a problem where there is too much", "a:b" + strings.Repeat("'x'", api.MaxSide) + ";", 0, draft.Answer{Code: api.ErrNone}},
	}
}

// great: what has too much, for the first of layer 8's Desugar, layer 12's Build and the bytes of layer 6's Text.
func great() map[string][]refusal {
	tooMuch := draft.Answer{Code: api.ErrQuota}
	return map[string][]refusal{
		"plain": {
			{"a wide side", "a:" + strings.Repeat("'x'", api.MaxSide+1) + ";", api.MaxText, tooMuch},
			{"productions too many", "a:" + rows(api.MaxProds+1, func(int) string { return "'x'" }) + ";", api.MaxText, tooMuch},
			{"terminals too many", "a:" + rows(api.MaxProds/2+1, func(k int) string { return fmt.Sprintf("'x%d' 'y%d'", k, k) }) + ";", api.MaxText, tooMuch},
		},
		"cnf": {
			{"a great normal form", ring(18, 16), api.MaxText, tooMuch},
		},
		"text": {
			{"a long text in the one form", wide(62), math.MaxInt, tooMuch},
			{"a byte too many", "a:;", 4, tooMuch},
		},
	}
}

func checkRefusals(t *testing.T, l []refusal) {
	t.Helper()
	d := undo(t, set(t, "a:'x';", "b:;", "c:;"), 1)
	was := told(d)
	for _, c := range l {
		if made, answer := draft.Accept(c.text, c.quota); answer != c.want || !reflect.DeepEqual(made, draft.Made{}) {
			t.Error(c.what, answer, "not", c.want)
		}
		if got, answer := d.Set(c.text, c.quota); answer != c.want || told(got) != nothing || told(d) != was {
			t.Error(c.what, told(got), answer, "not", c.want)
		}
	}
}

func TestRefused(t *testing.T) {
	checkRefusals(t, faulty())
	checkRefusals(t, problematic())
	for _, l := range great() {
		checkRefusals(t, l)
	}
}

// TestGreat: what has too much has it for the layer that is told.
func TestGreat(t *testing.T) {
	for layer, l := range great() {
		for _, c := range l {
			got := "text"
			p, err := plain.Desugar(parsed(t, c.text))
			if err != api.OK {
				got = "plain"
			} else if _, err := cnf.Build(p); err != api.OK {
				got = "cnf"
			}
			if got != layer {
				t.Error(c.what, "is refused by", got)
			}
		}
	}
	if made, answer := draft.Accept(ring(17, 16), api.MaxText); answer.Code != api.OK || len(made.Normal.Prods) != 65280 {
		t.Error("a normal form that is almost as great:", answer, len(made.Normal.Prods))
	}
}

// TestMaxText: the one form may have MaxText bytes, and no more, whatever the quota.
func TestMaxText(t *testing.T) {
	if s := wide(62); len(s) != api.MaxText {
		t.Fatal(len(s))
	}
	for more, want := range map[int]api.Errno{0: api.OK, 1: api.ErrQuota} {
		s := strings.TrimSuffix(wide(61), ";") + "|" + long + long + "'yyy" + strings.Repeat("y", more) + "';"
		if text := oneForm(t, s); len(text) != api.MaxText+more {
			t.Fatal(len(text))
		}
		for _, quota := range []int{api.MaxText, api.MaxText + 1, math.MaxInt} {
			if _, answer := draft.Accept(s, quota); answer != (draft.Answer{Code: want}) {
				t.Error(more, quota, answer)
			}
		}
	}
}

func oneForm(t *testing.T, s string) string {
	t.Helper()
	text, _ := format.Text(parsed(t, s))
	return text
}

func parsed(t *testing.T, s string) syntax.Grammar {
	t.Helper()
	g, fault := syntax.Parse(s)
	if fault != (lex.Fault{}) {
		t.Fatal(fault)
	}
	return g
}

func TestSet(t *testing.T) {
	d := set(t, "a:'x'|;")
	if told(d) != told(draft.Draft{Text: "a: 'x'|;\n", Back: []string{""}}) {
		t.Error(told(d))
	}
	d = set(t, "a:'x'|;", "b: ;", "b:;")
	if told(d) != told(draft.Draft{Text: "b: ;\n", Back: []string{"", "a: 'x'|;\n", "b: ;\n"}}) {
		t.Error(told(d))
	}
	d, err := d.Undo()
	if err != api.OK {
		t.Fatal(err)
	}
	d, answer := d.Set("c:;", 6)
	if answer != (draft.Answer{}) || told(d) != told(draft.Draft{Text: "c: ;\n", Back: []string{"", "a: 'x'|;\n", "b: ;\n"}}) {
		t.Error(told(d), answer)
	}
}

// TestMaxUndo: no more than so many texts are kept, the oldest ones go.
func TestMaxUndo(t *testing.T) {
	l := numbered(0, 100)
	for _, n := range []int{api.MaxUndo - 1, api.MaxUndo, api.MaxUndo + 1, api.MaxUndo + 2, 100} {
		d := set(t, l[:n]...)
		want := append([]string{""}, l[:n-1]...)
		want = want[max(0, len(want)-api.MaxUndo):]
		if d.Text != l[n-1] || !slices.Equal(d.Back, want) || len(d.Fore) > 0 {
			t.Error(n, told(d))
		}
		d = undo(t, d, len(want))
		if d.Text != want[0] || len(d.Back) > 0 || !slices.Equal(d.Fore, backward(l[n-len(want):n])) {
			t.Error(n, told(d))
		}
		if _, err := d.Undo(); err != api.ErrState {
			t.Error(n, err)
		}
	}
	full := draft.Draft{Text: "t: ;\n", Back: numbered(0, api.MaxUndo), Fore: numbered(50, 50+api.MaxUndo)}
	d, err := full.Redo()
	want := draft.Draft{Text: full.Fore[api.MaxUndo-1], Back: append(numbered(1, api.MaxUndo), "t: ;\n"), Fore: numbered(50, 49+api.MaxUndo)}
	if err != api.OK || told(d) != told(want) {
		t.Error(told(d), err)
	}
	d, err = full.Undo()
	want = draft.Draft{Text: full.Back[api.MaxUndo-1], Back: numbered(0, api.MaxUndo-1), Fore: append(numbered(50, 50+api.MaxUndo), "t: ;\n")}
	if err != api.OK || told(d) != told(want) {
		t.Error(told(d), err)
	}
}

func TestUndo(t *testing.T) {
	d := set(t, "a:'x'|;", "b: ;")
	d, err := d.Undo()
	if err != api.OK || d.Text != "a: 'x'|;\n" { // the chapter's own
		t.Fatal(told(d), err)
	}
	if told(d) != told(draft.Draft{Text: "a: 'x'|;\n", Back: []string{""}, Fore: []string{"b: ;\n"}}) {
		t.Error(told(d))
	}
	d, err = d.Undo()
	if err != api.OK || told(d) != told(draft.Draft{Fore: []string{"b: ;\n", "a: 'x'|;\n"}}) {
		t.Error(told(d), err)
	}
	if none, err := d.Undo(); err != api.ErrState || told(none) != nothing {
		t.Error(told(none), err)
	}
	d, err = d.Redo()
	if err != api.OK || told(d) != told(draft.Draft{Text: "a: 'x'|;\n", Back: []string{""}, Fore: []string{"b: ;\n"}}) {
		t.Error(told(d), err)
	}
	d, err = d.Redo()
	if err != api.OK || told(d) != told(set(t, "a:'x'|;", "b: ;")) {
		t.Error(told(d), err)
	}
	if none, err := d.Redo(); err != api.ErrState || told(none) != nothing {
		t.Error(told(none), err)
	}
	if none, err := (draft.Draft{}).Undo(); err != api.ErrState || told(none) != nothing {
		t.Error(told(none), err)
	}
	if none, err := (draft.Draft{}).Redo(); err != api.ErrState || told(none) != nothing {
		t.Error(told(none), err)
	}
	if none, err := (draft.Draft{Fore: []string{"a: ;\n"}}).Undo(); err != api.ErrState || told(none) != nothing {
		t.Error(told(none), err)
	}
	if none, err := (draft.Draft{Back: []string{"a: ;\n"}}).Redo(); err != api.ErrState || told(none) != nothing {
		t.Error(told(none), err)
	}
}

const worked = "S: a 'x' | b c;\na: 'y'|;\nb: b;\nc: {'z' a};\n"

func TestKinds(t *testing.T) {
	if l := []int{draft.Rename, draft.Inline, draft.Extract, draft.Trim, draft.Flatten}; !slices.Equal(l, []int{1, 2, 3, 4, 5}) {
		t.Error(l)
	}
}

func TestChange(t *testing.T) {
	g := parsed(t, worked)
	first := func(h syntax.Grammar, err api.Errno) string {
		if err != api.OK {
			t.Fatal(err)
		}
		text, _ := format.Text(h)
		return text
	}
	for _, c := range []struct {
		change      draft.Change
		want, again string
	}{
		{draft.Change{Kind: draft.Rename, Name: "a", New: "d"}, "S: d 'x'|b c;\nd: 'y'|;\nb: b;\nc: {'z' d};\n", first(refactor.Rename(g, "a", "d"))},
		{draft.Change{Kind: draft.Inline, Name: "a"}, "S: ('y'|) 'x'|b c;\nb: b;\nc: {'z' ('y'|)};\n", first(refactor.Inline(g, "a"))},
		{draft.Change{Kind: draft.Extract, Name: "S", Row: 1, From: 0, N: 2, New: "d"}, "S: a 'x'|d;\na: 'y'|;\nb: b;\nc: {'z' a};\nd: b c;\n", first(refactor.Extract(g, "S", 1, 0, 2, "d"))},
		{draft.Change{Kind: draft.Extract, Name: "S", Row: 0, From: 1, N: 1, New: "d"}, "S: a d|b c;\na: 'y'|;\nb: b;\nc: {'z' a};\nd: 'x';\n", first(refactor.Extract(g, "S", 0, 1, 1, "d"))},
		{draft.Change{Kind: draft.Trim}, "S: a 'x';\na: 'y'|;\n", first(refactor.Trim(g))},
		{draft.Change{Kind: draft.Flatten}, "S: a 'x'|b c;\na: 'y'|;\nb: b;\nc: c-1;\nc-1: |'z' a c-1;\n", first(refactor.Flatten(g))},
		// what a kind doesn't ask for doesn't matter
		{draft.Change{Kind: draft.Trim, Name: "q", New: "9", Row: -1, From: -1, N: math.MinInt}, "S: a 'x';\na: 'y'|;\n", first(refactor.Trim(g))},
		{draft.Change{Kind: draft.Inline, Name: "a", New: "9", Row: -1, From: -1, N: -1}, "S: ('y'|) 'x'|b c;\nb: b;\nc: {'z' ('y'|)};\n", first(refactor.Inline(g, "a"))},
		{draft.Change{Kind: draft.Rename, Name: "a", New: "d", Row: -1, From: -1, N: -1}, "S: d 'x'|b c;\nd: 'y'|;\nb: b;\nc: {'z' d};\n", first(refactor.Rename(g, "a", "d"))},
	} {
		d := undo(t, set(t, "a:;", worked, "b:;"), 1)
		was := told(d)
		if c.want != c.again {
			t.Fatal(c.change, c.want, c.again)
		}
		got, answer := d.Change(c.change, len(c.want))
		want := draft.Draft{Text: c.want, Back: []string{"", "a: ;\n", first(g, api.OK)}}
		if answer != (draft.Answer{}) || told(got) != told(want) || told(d) != was {
			t.Error(c.change, told(got), answer)
		}
		if got, answer := d.Change(c.change, len(c.want)-1); answer != (draft.Answer{Code: api.ErrQuota}) || told(got) != nothing || told(d) != was {
			t.Error(c.change, told(got), answer)
		}
		back, err := got.Undo()
		if err != api.OK || back.Text != d.Text || !slices.Equal(back.Back, d.Back) || !slices.Equal(back.Fore, []string{c.want}) {
			t.Error(c.change, told(back), err)
		}
	}
}

func TestChangeRefused(t *testing.T) {
	name := strings.Repeat("n", api.MaxName)
	for _, c := range []struct {
		text   string
		change draft.Change
		want   api.Errno
	}{
		{"", draft.Change{Kind: draft.Trim}, api.ErrState}, {"", draft.Change{}, api.ErrState}, {"", draft.Change{Kind: 6}, api.ErrState},
		{"a:;", draft.Change{}, api.ErrKind}, {"a:;", draft.Change{Kind: 6}, api.ErrKind}, {"a:;", draft.Change{Kind: -1}, api.ErrKind},
		{"a:;", draft.Change{Kind: math.MinInt}, api.ErrKind}, {"a:;", draft.Change{Kind: math.MaxInt, Name: "q"}, api.ErrKind},
		{"a:;", draft.Change{Kind: draft.Rename, Name: "b", New: "9"}, api.ErrNone}, {"a:;", draft.Change{Kind: draft.Rename, Name: "a", New: "9"}, api.ErrName},
		{"a:;b:;", draft.Change{Kind: draft.Rename, Name: "a", New: "b"}, api.ErrClash}, {"a:;", draft.Change{Kind: draft.Rename, Name: "a", New: "a"}, api.ErrClash},
		{"a:;", draft.Change{Kind: draft.Inline}, api.ErrNone}, {"a:b;b:;", draft.Change{Kind: draft.Inline, Name: "a", New: "b"}, api.ErrStart}, {"a:b;b:b;", draft.Change{Kind: draft.Inline, Name: "b"}, api.ErrLoop},
		{"a:'x';", draft.Change{Kind: draft.Extract, Name: "b", N: 1, New: "c"}, api.ErrNone}, {"a:'x';", draft.Change{Kind: draft.Extract, Name: "a", New: "c"}, api.ErrArg},
		{"a:'x';", draft.Change{Kind: draft.Extract, Name: "a", Row: 1, N: 1, New: "c"}, api.ErrArg}, {"a:'x';", draft.Change{Kind: draft.Extract, Name: "a", From: 1, N: 1, New: "c"}, api.ErrArg},
		{"a:'x';", draft.Change{Kind: draft.Extract, Name: "a", From: -1, N: 1, New: "c"}, api.ErrArg}, {"a:'x';", draft.Change{Kind: draft.Extract, Name: "a", N: math.MaxInt, New: "c"}, api.ErrArg},
		{"a:'x';", draft.Change{Kind: draft.Extract, Name: "a", N: 1}, api.ErrName}, {"a:'x';", draft.Change{Kind: draft.Extract, Name: "a", N: 1, New: "a"}, api.ErrClash},
		{"a:a;", draft.Change{Kind: draft.Trim}, api.ErrStart}, {name + ":['x' 'y'] 'z';", draft.Change{Kind: draft.Flatten}, api.ErrName},
		{"a:" + rows(api.MaxProds, func(int) string { return "'x'" }) + ";", draft.Change{Kind: draft.Extract, Name: "a", N: 1, New: "c"}, api.ErrQuota},
	} {
		d := draft.Draft{Back: []string{"a: ;\n"}, Fore: []string{"b: ;\n"}}
		if c.text != "" {
			d = undo(t, set(t, c.text, "u:;"), 1)
		}
		was := told(d)
		got, answer := d.Change(c.change, api.MaxText)
		if answer != (draft.Answer{Code: c.want}) || told(d) != was || told(got) != nothing {
			t.Errorf("%s %v: %s %v", c.text, c.change, told(got), answer)
		}
	}
	// where all is wrong, a draft without a text comes first, then the kind, then the change, then the quota
	d := set(t, "a:;")
	for change, want := range map[draft.Change]api.Errno{{}: api.ErrKind, {Kind: draft.Inline}: api.ErrNone, {Kind: draft.Trim}: api.ErrQuota} {
		if got, answer := d.Change(change, 0); answer != (draft.Answer{Code: want}) || told(got) != nothing {
			t.Error(change, told(got), answer)
		}
	}
}

// TestGreatChange: what comes of a change fits, but its normal form has too much.
func TestGreatChange(t *testing.T) {
	d := set(t, ring(17, 16))
	d, answer := d.Change(draft.Change{Kind: draft.Extract, Name: "r0", N: 1, New: "y"}, api.MaxText)
	if answer != (draft.Answer{}) {
		t.Fatal(answer)
	}
	if _, err := refactor.Extract(parsed(t, d.Text), "r1", 0, 0, 1, "z"); err != api.OK {
		t.Fatal(err)
	}
	got, answer := d.Change(draft.Change{Kind: draft.Extract, Name: "r1", N: 1, New: "z"}, api.MaxText)
	if answer != (draft.Answer{Code: api.ErrQuota}) || told(got) != nothing {
		t.Error(answer)
	}
}

// TestHandMade: a draft whose Text isn't one that was accepted is no draft, but nothing breaks.
func TestHandMade(t *testing.T) {
	for text, want := range map[string]api.Errno{"a": api.ErrArg, "\xff": api.ErrArg, " ": api.ErrArg, "a:b;": api.ErrNone} {
		for kind := draft.Rename; kind <= draft.Flatten; kind++ {
			d := draft.Draft{Text: text}
			if got, answer := d.Change(draft.Change{Kind: kind, Name: "a", New: "c", N: 1}, api.MaxText); answer != (draft.Answer{Code: want}) || told(got) != nothing {
				t.Errorf("%q %d: %s %v", text, kind, told(got), answer)
			}
		}
	}
}

func TestRight(t *testing.T) {
	good := "a: 'x'|;\n"
	as := func(n int, s string) []string { return slices.Repeat([]string{s}, n) }
	for _, c := range []struct {
		what string
		d    draft.Draft
		want bool
	}{
		{"the zero one", draft.Draft{}, true},
		{"a text", draft.Draft{Text: good}, true},
		{"texts all round", draft.Draft{good, []string{"", "b: ;\n"}, []string{good, ""}}, true},
		{"no text, but others", draft.Draft{"", []string{good}, []string{good}}, true},
		{"as many as may be", draft.Draft{good, as(api.MaxUndo, good), as(api.MaxUndo, "")}, true},
		{"as many the other way", draft.Draft{"", as(api.MaxUndo, ""), as(api.MaxUndo, good)}, true},
		{"one too many back", draft.Draft{good, as(api.MaxUndo+1, good), nil}, false},
		{"one too many fore", draft.Draft{good, nil, as(api.MaxUndo+1, good)}, false},
		{"empty ones too many", draft.Draft{"", as(api.MaxUndo+1, ""), nil}, false},
		{"a text in another form", draft.Draft{Text: "a: 'x'|;"}, false},
		{"another form back", draft.Draft{"", []string{good, "a:'x'|;\n", good}, nil}, false},
		{"another form fore", draft.Draft{"", nil, []string{good, good, "a: 'x' |;\n"}}, false},
		{"a start that needn't be told", draft.Draft{Text: "%a;\n" + good}, false},
		{"no grammar", draft.Draft{Text: "a"}, false},
		{"a blank", draft.Draft{Text: " "}, false},
		{"no grammar back", draft.Draft{good, []string{"?"}, nil}, false},
		{"no grammar fore", draft.Draft{good, nil, []string{"?", good}}, false},
		{"a grammar that isn't sound", draft.Draft{Text: "a: b;\n"}, false},
		{"one that has too much", draft.Draft{Text: "a: " + strings.Repeat("'x' ", api.MaxSide) + "'x';\n"}, false},
		{"one of many bytes", draft.Draft{Text: oneForm(t, wide(61))}, true},
		{"one of too many", draft.Draft{Text: oneForm(t, wide(62))}, false},
		{"made", undo(t, set(t, numbered(0, 50)...), 10), true},
	} {
		if got := draft.Right(c.d); got != c.want {
			t.Error(c.what, got)
		}
	}
}

// edits that are accepted of the draft in TestValues.
func edits() []func(d draft.Draft) (draft.Draft, api.Errno) {
	plainly := func(d draft.Draft, answer draft.Answer) (draft.Draft, api.Errno) { return d, answer.Code }
	return []func(d draft.Draft) (draft.Draft, api.Errno){
		func(d draft.Draft) (draft.Draft, api.Errno) { return plainly(d.Set("z:;", 9)) },
		func(d draft.Draft) (draft.Draft, api.Errno) { return plainly(d.Set("y:;", 9)) },
		func(d draft.Draft) (draft.Draft, api.Errno) {
			return plainly(d.Change(draft.Change{Kind: draft.Rename, Name: "a", New: "q"}, 99))
		},
		func(d draft.Draft) (draft.Draft, api.Errno) {
			return plainly(d.Change(draft.Change{Kind: draft.Flatten}, 99))
		},
		draft.Draft.Undo, draft.Draft.Undo, draft.Draft.Redo, draft.Draft.Redo,
	}
}

// TestValues: what is made of a draft leaves it as it was, the room behind its lists too, and so do changes of what was answered.
func TestValues(t *testing.T) {
	for _, n := range []int{4, 20, 60} {
		d := undo(t, set(t, numbered(0, n)...), 2)
		back, fore := append(slices.Clone(d.Back), "behind"), append(slices.Clone(d.Fore), "behind")
		d.Back, d.Fore = back[:len(back)-1], fore[:len(fore)-1]
		was := told(d)
		var made []draft.Draft
		var tells []string
		for _, edit := range edits() {
			next, err := edit(d)
			if err != api.OK {
				t.Fatal(err)
			}
			made = append(made, next)
			tells = append(tells, told(next))
		}
		for k := range made {
			if told(made[k]) != tells[k] {
				t.Error(k, "was changed by a later one")
			}
			for _, l := range [][]string{made[k].Back, made[k].Fore} {
				clear(l[:cap(l)])
			}
			if told(d) != was || back[len(back)-1] != "behind" || fore[len(fore)-1] != "behind" {
				t.Fatal(k, "shares with what it was made of")
			}
		}
	}
}

// TestMadeValues: the forms of a grammar share nothing with one another, nor with those of another answer.
func TestMadeValues(t *testing.T) {
	spoilSource := func(m draft.Made) { clear(m.Source.Rules[0].Body.Kids); clear(m.Source.Rules) }
	spoilPlain := func(m draft.Made) {
		clear(m.Plain.Names)
		clear(m.Plain.Terms)
		spoilProds(m.Plain.Prods)
	}
	spoilNormal := func(m draft.Made) { spoilProds(m.Normal.Prods) }
	want, _ := draft.Accept(worked, api.MaxText)
	for what, spoil := range map[string]func(m draft.Made){"source": spoilSource, "plain": spoilPlain, "normal": spoilNormal} {
		spoilt, _ := draft.Accept(worked, api.MaxText)
		other, _ := draft.Accept(worked, api.MaxText)
		spoil(spoilt)
		checkForms(t, worked, other)
		if what != "source" && !syntax.Same(spoilt.Source, want.Source) || what != "plain" && !reflect.DeepEqual(spoilt.Plain, want.Plain) || what != "normal" && !reflect.DeepEqual(spoilt.Normal, want.Normal) {
			t.Error(what, "shares with another form")
		}
	}
}

func spoilProds(prods []plain.Prod) {
	for _, prod := range prods {
		clear(prod.Right[:cap(prod.Right)])
	}
	clear(prods[:cap(prods)])
}
