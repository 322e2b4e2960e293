package task_test

import (
	"fmt"
	"math"
	"reflect"
	"slices"
	"strings"
	"testing"

	"primer/api"
	"primer/cnf"
	"primer/draft"
	"primer/marks"
	"primer/octets"
	"primer/plain"
	"primer/task"
)

// words of texts with blanks between; of "" the empty word.
func words(lines ...string) [][]string {
	var l [][]string
	for _, line := range lines {
		l = append(l, strings.Fields(line))
	}
	return l
}

// some words, all alike.
func some(n int, line string) [][]string {
	return slices.Repeat(words(line), n)
}

func made(t *testing.T, text string) draft.Made {
	t.Helper()
	m, answer := draft.Accept(text, api.MaxText)
	if answer.Code != api.OK {
		t.Fatal(text, answer)
	}
	return m
}

// told: a task as a text, and the same text for the same tasks alone.
func told(t task.Task) string {
	s := fmt.Sprintf("%q", t.Name)
	for _, l := range [][][]string{t.Yes, t.No} {
		s += "["
		for _, texts := range l {
			s += fmt.Sprintf("%q", slices.Concat(texts))
		}
		s += "]"
	}
	return s + fmt.Sprintf("%v %x", t.Clear, math.Float64bits(t.Weight))
}

var nothing = told(task.Task{})

// minus0 is equal to 0, but isn't its own Canon.
var minus0 = math.Copysign(0, -1)

// A candidate is a task, and whether it is good.
type candidate struct {
	what string
	task task.Task
	want bool
}

func candidates() []candidate {
	name, text := strings.Repeat("n", api.MaxName), strings.Repeat("\xff", api.MaxLiteral)
	l := []candidate{
		{"one yes", task.Task{Name: "a", Yes: words("x")}, true},
		{"one no", task.Task{Name: "a", No: words("x")}, true},
		{"both", task.Task{Name: "a", Yes: words("x", "x y"), No: words("y"), Clear: true, Weight: 2.5}, true},
		{"the empty word", task.Task{Name: "a", Yes: words(""), No: words("")}, true},
		{"one word twice, and as yes and no", task.Task{Name: "a", Yes: words("x", "x"), No: words("x")}, true},
		{"nothing", task.Task{}, false},
		{"no words", task.Task{Name: "a", Yes: words(), No: words()}, false},
		{"as many yes as may be", task.Task{Name: "a", Yes: some(api.MaxWord, "x")}, true},
		{"as many no as may be", task.Task{Name: "a", No: some(api.MaxWord, "x")}, true},
		{"as many as may be", task.Task{Name: "a", Yes: some(1, "x"), No: some(api.MaxWord-1, "x")}, true},
		{"one yes too many", task.Task{Name: "a", Yes: some(api.MaxWord+1, "x")}, false},
		{"one no too many", task.Task{Name: "a", No: some(api.MaxWord+1, "x")}, false},
		{"one too many", task.Task{Name: "a", Yes: some(1, "x"), No: some(api.MaxWord, "x")}, false},
		{"one too many the other way", task.Task{Name: "a", Yes: some(api.MaxWord, "x"), No: some(1, "x")}, false},
		{"a long name", task.Task{Name: name, Yes: words("x")}, true},
		{"a name too long", task.Task{Name: name + "n", Yes: words("x")}, false},
		{"no name", task.Task{Yes: words("x")}, false},
		{"a bad name", task.Task{Name: "a.", Yes: words("x")}, false},
		{"a name that begins badly", task.Task{Name: "1", Yes: words("x")}, false},
		{"any bytes", task.Task{Name: "a", Yes: [][]string{{"\x00", "'", "\n", text}}}, true},
	}
	for what, word := range map[string][]string{"no bytes": {""}, "no bytes behind": {"x", ""}, "bytes too many": {text + "x"}, "bytes too many behind": {"x", text + "x"}, "texts too many": slices.Repeat([]string{"x"}, api.MaxWord+1)} {
		l = append(l, candidate{what + " of a yes", task.Task{Name: "a", Yes: [][]string{{"x"}, word}, No: words("x")}, false})
		l = append(l, candidate{what + " of a no", task.Task{Name: "a", Yes: words("x"), No: [][]string{{"x"}, word}}, false})
	}
	full := slices.Repeat([]string{text}, api.MaxWord)
	l = append(l, candidate{"as much as may be", task.Task{Name: name, Yes: slices.Repeat([][]string{full}, 32), No: slices.Repeat([][]string{full}, 32), Weight: math.MaxFloat64}, true})
	for weight, want := range map[float64]bool{
		0: true, 0.1: true, 1: true, 5e-324: true, 1e308: true, math.MaxFloat64: true, -5e-324: false, -1: false, -math.MaxFloat64: false, math.Inf(1): false, math.Inf(-1): false,
	} {
		l = append(l, candidate{fmt.Sprint("the weight ", weight), task.Task{Name: "a", Yes: words("x"), Weight: weight}, want})
	}
	for _, weight := range []float64{minus0, math.NaN(), marks.Share(0, 0), math.Float64frombits(0xFFF8000000000001)} {
		l = append(l, candidate{fmt.Sprint("the weight ", weight), task.Task{Name: "a", Yes: words("x"), Weight: weight}, false})
	}
	return l
}

func TestGood(t *testing.T) {
	for _, c := range candidates() {
		if got := task.Good(c.task); got != c.want {
			t.Error(c.what, got)
		}
	}
}

// shown: a report as a text; the mark as layer 2 shows it.
func shown(r task.Report) string {
	return fmt.Sprint(r.Right, "/", r.All, " ", slices.Concat(r.Wrong), " ", marks.Show(r.Mark))
}

func TestGrade(t *testing.T) {
	for _, c := range []struct {
		text    string
		yes, no [][]string
		clear   bool
		want    string
	}{
		{"S:'x'*;", words("x x"), words("x"), false, "1/2 [1] 50"}, // the chapter's own
		{"S:'x'*;", words("x x"), words("x"), true, "1/2 [1] 50"},
		{"S:'x';", words("x x"), words("x"), false, "0/2 [0 1] 0"},
		{"S:'x' 'x';", words("x x"), words("x"), true, "2/2 [] 100"},
		{"S:'x' S|'y';", words("y", "x", "x y", "y x"), words("x x y", "", "z"), false, "4/7 [1 3 4] " + marks.Show(400.0/7)},
		{"S:'x';", words("x"), nil, true, "1/1 [] 100"},
		{"S:'x';", nil, words("x"), true, "0/1 [0] 0"},
		{"S:'x';", nil, words("x x", "", "y", "x", "x"), false, "3/5 [3 4] 60"},
		// a text that is no terminal makes a word that isn't derived, whatever is beside it
		{"S:'x'*;", words("x y", "y", "x S", "xx", "x x"), words("y", "x x y", "x"), false, "3/8 [0 1 2 3 7] 37.5"},
		{"S:'ab' 'c'|'a' 'bc';", words("ab c", "a bc"), words("a b c", "abc"), true, "4/4 [] 100"},
		// the empty word
		{"S:|'x';", words("", "x"), words(""), true, "2/3 [2] " + marks.Show(200.0/3)},
		{"S:'x';", words("", "x"), words(""), true, "2/3 [0] " + marks.Show(200.0/3)},
		{"S: S S|;", words(""), nil, true, "1/1 [] 100"},
		// a grammar in which a word has several trees
		{"S:S S|'x';", words("x", "x x", "x x x", "x x x x"), words("y"), false, "5/5 [] 100"},
		{"S:S S|'x';", words("x", "x x", "x x x", "x x x x"), words("y"), true, "3/5 [2 3] 60"},
		{"S:S S|'x';", words("x x x"), words("x x x"), true, "0/2 [0 1] 0"}, // several trees don't make it one that isn't derived
		{"S:S S|'x';", words("x x x"), words("x x x"), false, "1/2 [1] 50"},
		{"S:a 'z'|b 'z';a:'x' 'y';b:'x' 'y';", words("x y z"), nil, true, "0/1 [0] 0"},
		// a start that isn't the first rule, and one that derives no word
		{"%b;a:'x';b:'y';", words("x", "y"), words("x", "y"), false, "2/4 [0 3] 50"},
		{"S:S 'x';", words("x", ""), words("x", ""), false, "2/4 [0 1] 50"},
		{"S:'x'*;", [][]string{slices.Repeat([]string{"x"}, api.MaxWord)}, [][]string{slices.Repeat([]string{"x"}, api.MaxWord)}, true, "1/2 [1] 50"},
		{"S:'x'*;", some(api.MaxWord, "x"), nil, true, "64/64 [] 100"},
	} {
		got, err := task.Grade(made(t, c.text), task.Task{Name: "a", Yes: c.yes, No: c.no, Clear: c.clear, Weight: 3})
		if err != api.OK || shown(got) != c.want {
			t.Errorf("%s %v %v: %s %d, not %s", c.text, c.yes, c.no, shown(got), err, c.want)
		}
	}
}

func TestGradeRefuses(t *testing.T) {
	m := made(t, "S:'x'|S S;")
	good := task.Task{Name: "a", Yes: words("x")}
	for what, spoil := range map[string]func(m *draft.Made){
		"nothing":               func(m *draft.Made) { *m = draft.Made{} },
		"no plain grammar":      func(m *draft.Made) { m.Plain = plain.Grammar{} },
		"no normal form":        func(m *draft.Made) { m.Normal = cnf.Grammar{} },
		"a start that isn't":    func(m *draft.Made) { m.Plain.Start = 1 },
		"terms alike":           func(m *draft.Made) { m.Plain.Terms = []string{"x", "x"} },
		"a terminal of another": func(m *draft.Made) { m.Plain.Terms = nil },
		"out of order":          func(m *draft.Made) { slices.Reverse(m.Normal.Prods) },
		"a unit":                func(m *draft.Made) { m.Normal.Prods = []plain.Prod{{Right: []int{0}}} },
		"no start":              func(m *draft.Made) { m.Normal.Start = -1 },
	} {
		bad := made(t, "S:'x'|S S;")
		spoil(&bad)
		for _, c := range []task.Task{good, {}} {
			if r, err := task.Grade(bad, c); err != api.ErrArg || !reflect.DeepEqual(r, task.Report{}) {
				t.Error(what, r, err)
			}
		}
	}
	for _, c := range candidates() {
		r, err := task.Grade(m, c.task)
		if c.want != (err == api.OK) || err != api.OK && (err != api.ErrArg || !reflect.DeepEqual(r, task.Report{})) {
			t.Error(c.what, r, err)
		}
	}
	// Source and Text don't matter
	m.Source.Rules, m.Text = nil, ""
	if r, err := task.Grade(m, good); err != api.OK || shown(r) != "1/1 [] 100" {
		t.Error(shown(r), err)
	}
}

// TestGradeOfTwo: Plain tells what the texts are, Normal whether they are a word; of hand-made ones these may be of two grammars.
func TestGradeOfTwo(t *testing.T) {
	m := made(t, "S:'x' 'y';")
	m.Normal = made(t, "S:'p';").Normal // of terminal 0 alone
	r, err := task.Grade(m, task.Task{Name: "a", Yes: words("x", "y", "x y"), No: words("x", "y", "p")})
	if err != api.OK || shown(r) != "3/6 [1 2 3] 50" {
		t.Error(shown(r), err)
	}
	m.Normal = cnf.Grammar{Start: math.MaxInt - 1, Count: math.MaxInt, Terms: math.MaxInt, Empty: true, Prods: []plain.Prod{{Left: math.MaxInt - 1, Right: []int{-2}}}}
	r, err = task.Grade(m, task.Task{Name: "a", Yes: words("x", "y", "x y", "")})
	if err != api.OK || shown(r) != "2/4 [0 2] 50" {
		t.Error(shown(r), err)
	}
}

func TestTotal(t *testing.T) {
	none := marks.Share(0, 0)
	of := func(weights ...float64) []task.Task {
		var l []task.Task
		for _, w := range weights {
			l = append(l, task.Task{Weight: w})
		}
		return l
	}
	for _, c := range []struct {
		l     []task.Task
		marks []float64
		want  string
		err   api.Errno
	}{
		{nil, nil, "none", api.OK},
		{of(1), []float64{50}, "50", api.OK},
		{of(1, 3), []float64{100, 20}, "40", api.OK},
		{of(3, 1), []float64{100, 20}, "80", api.OK},
		{of(1, 3, 4), []float64{100, 20, none}, "40", api.OK},
		{of(1, 3), []float64{none, math.NaN()}, "none", api.OK},
		{of(0, 0), []float64{1, 2}, "none", api.OK},
		{of(0, 2), []float64{1, 2}, "2", api.OK},
		{of(minus0, 2), []float64{1, 2}, "2", api.OK},
		{of(1), []float64{math.Inf(1)}, "inf", api.OK},
		{of(1), []float64{minus0}, "0", api.OK},
		{of(1), nil, "0", api.ErrArg},
		{nil, []float64{1}, "0", api.ErrArg},
		{of(1, 2), []float64{1}, "0", api.ErrArg},
		{of(-1, 2), []float64{1}, "0", api.ErrArg},
		{of(1, -1), []float64{1, 1}, "0", api.ErrMark},
		{of(none), []float64{none}, "0", api.ErrMark},
		{of(math.Inf(1)), []float64{1}, "0", api.ErrMark},
	} {
		if got, err := task.Total(c.l, c.marks); err != c.err || marks.Show(got) != c.want || math.Float64bits(got) != math.Float64bits(marks.Canon(got)) {
			t.Error(c.l, c.marks, got, err)
		}
	}
	l := []task.Task{{Name: "?", Yes: words("x"), Weight: 1}, {Weight: 1}}
	if got, err := task.Total(l, []float64{10, 20}); got != 15 || err != api.OK {
		t.Error("a task that isn't good:", got, err)
	}
}

// TestKept: what is handed in stays as it is.
func TestKept(t *testing.T) {
	x := task.Task{Name: "a", Yes: words("x x", "y"), No: words("x", ""), Clear: true, Weight: 2}
	m, again := made(t, "S:S S|'x'|'y';"), made(t, "S:S S|'x'|'y';")
	was := told(x)
	r, err := task.Grade(m, x)
	if err != api.OK || shown(r) != "3/4 [2] 75" {
		t.Error(shown(r), err)
	}
	got, err := task.Get(task.Put(x))
	if err != api.OK || told(got) != was {
		t.Fatal(told(got), err)
	}
	for _, texts := range slices.Concat(got.Yes, got.No) {
		clear(texts)
	}
	l := []task.Task{x, x}
	values := []float64{math.NaN(), minus0}
	if _, err := task.Total(l, values); err != api.OK || !math.Signbit(values[1]) || told(l[0]) != was || told(l[1]) != was {
		t.Error("Total changed them")
	}
	if told(x) != was || !reflect.DeepEqual(m, again) {
		t.Error("was changed:", told(x))
	}
}

// bytes of numbers, yes or no, texts and lists of texts, one behind the other.
func bytes(things ...any) string {
	var o octets.Out
	for _, x := range things {
		switch x := x.(type) {
		case int:
			o.Int(x)
		case bool:
			o.Bool(x)
		case string:
			o.Text(x)
		case []string:
			o.Texts(x)
		}
	}
	s, ok := o.Bytes()
	if !ok {
		panic("no bytes")
	}
	return s
}

func TestPut(t *testing.T) {
	x := task.Task{Name: "a", Yes: words("x x", ""), No: words("y"), Clear: true, Weight: 1}
	want := "\x01\x01a" + "\x01\x02" + "\x01\x02\x01\x01x\x01\x01x" + "\x00" + "\x01\x01" + "\x01\x01\x01\x01y" + "\x01" + "\x01\x08\x3f\xf0\x00\x00\x00\x00\x00\x00"
	if got := task.Put(x); got != want {
		t.Errorf("%x, not %x", got, want)
	}
	if got := task.Put(task.Task{}); got != bytes("", 0, 0, false, marks.Put(0)) {
		t.Errorf("%x", got)
	}
	// of a hand-made one whatever comes of it
	for _, weight := range []float64{minus0, math.NaN(), math.Inf(-1), -2} {
		x := task.Task{Name: "?", Yes: some(api.MaxWord+1, "x"), No: [][]string{{""}, make([]string, api.MaxWord+1)}, Weight: weight}
		things := []any{"?", api.MaxWord + 1}
		for range api.MaxWord + 1 {
			things = append(things, []string{"x"})
		}
		things = append(things, 2, []string{""}, make([]string, api.MaxWord+1), false, marks.Put(weight))
		if got := task.Put(x); got != bytes(things...) {
			t.Errorf("%v: %x", weight, got)
		}
	}
	long, many := strings.Repeat("x", api.MaxText+1), make([]string, api.MaxText+1)
	for what, x := range map[string]task.Task{
		"a name": {Name: long}, "a yes": {Yes: [][]string{{"a"}, {"a", long}}}, "a no": {No: [][]string{{long}}}, "a long yes": {Yes: [][]string{many}}, "a long no": {No: [][]string{{}, many}},
	} {
		if got := task.Put(x); got != "" {
			t.Errorf("%s: %d bytes", what, len(got))
		}
	}
	if got := task.Put(task.Task{Name: long[1:], Yes: [][]string{many[1:]}, No: [][]string{{long[1:]}}}); got == "" {
		t.Error("as long as may be")
	}
}

func TestGetOfPut(t *testing.T) {
	for _, c := range candidates() {
		got, err := task.Get(task.Put(c.task))
		if c.want && (err != api.OK || told(got) != told(c.task) || !task.Good(got)) {
			t.Error(c.what, err)
		}
		if c.what == "the weight -0" { // whose bytes are those of 0
			if err != api.OK || math.Signbit(got.Weight) {
				t.Error(c.what, err)
			}
		} else if !c.want && (err == api.OK || told(got) != nothing) {
			t.Error(c.what, told(got), err)
		}
	}
}

func TestGet(t *testing.T) {
	weight := marks.Put(1)
	x := []string{"x"}
	full := slices.Repeat(x, api.MaxWord)
	all := func(count int) []any { // as many words with a text
		l := []any{count}
		for range count {
			l = append(l, x)
		}
		return l
	}
	lists := func(yes, no int) string {
		return bytes(slices.Concat([]any{"a"}, all(yes), all(no), []any{false, weight})...)
	}
	for _, c := range []struct {
		what string
		s    string
		want api.Errno
	}{
		{"a yes", bytes("a", 1, x, 0, false, weight), api.OK},
		{"a no", bytes("a", 0, 1, x, true, weight), api.OK},
		{"the empty word", bytes("a", 1, []string{}, 0, false, weight), api.OK},
		{"a long word", bytes("a", 1, full, 0, false, weight), api.OK},
		{"as many yes as may be", lists(api.MaxWord, 0), api.OK},
		{"as many no as may be", lists(0, api.MaxWord), api.OK},
		{"as many as may be", lists(api.MaxWord/2, api.MaxWord/2), api.OK},
		// what is no good task
		{"no words", lists(0, 0), api.ErrForm},
		{"one too many", lists(api.MaxWord, 1), api.ErrForm},
		{"far too many", lists(api.MaxWord, api.MaxWord), api.ErrForm},
		{"no name", bytes("", 1, x, 0, false, weight), api.ErrForm},
		{"a bad name", bytes("9", 1, x, 0, false, weight), api.ErrForm},
		{"a long name", bytes(strings.Repeat("n", api.MaxName), 1, x, 0, false, weight), api.OK},
		{"a name too long", bytes(strings.Repeat("n", api.MaxName+1), 1, x, 0, false, weight), api.ErrForm},
		{"no bytes", bytes("a", 1, []string{""}, 0, false, weight), api.ErrForm},
		{"bytes of a terminal", bytes("a", 1, []string{strings.Repeat("x", api.MaxLiteral)}, 0, false, weight), api.OK},
		{"bytes too many", bytes("a", 0, 1, []string{strings.Repeat("x", api.MaxLiteral+1)}, false, weight), api.ErrForm},
		// weights
		{"the weight 0", bytes("a", 1, x, 0, false, marks.Put(0)), api.OK},
		{"the weight -0", bytes("a", 1, x, 0, false, "\x80\x00\x00\x00\x00\x00\x00\x00"), api.ErrForm},
		{"a weight below 0", bytes("a", 1, x, 0, false, marks.Put(-1)), api.ErrForm},
		{"no mark", bytes("a", 1, x, 0, false, marks.Put(math.NaN())), api.ErrForm},
		{"another NaN", bytes("a", 1, x, 0, false, "\x7f\xf8\x00\x00\x00\x00\x00\x02"), api.ErrForm},
		{"an infinite one", bytes("a", 1, x, 0, false, marks.Put(math.Inf(1))), api.ErrForm},
		{"no weight", bytes("a", 1, x, 0, false, ""), api.ErrForm},
		{"a short weight", bytes("a", 1, x, 0, false, weight[:7]), api.ErrForm},
		{"a long weight", bytes("a", 1, x, 0, false, weight+"\x00"), api.ErrForm},
		// counts, at once
		{"yes below", bytes("a", -1), api.ErrForm},
		{"yes above", bytes("a", api.MaxWord+1), api.ErrForm},
		{"yes far above", bytes("a", api.MaxNumber), api.ErrForm},
		{"yes far below", bytes("a", -api.MaxNumber), api.ErrForm},
		{"yes as many as may be, short", bytes("a", api.MaxWord), api.ErrShort},
		{"no below", bytes("a", 0, -1), api.ErrForm},
		{"no above", bytes("a", 1, x, api.MaxWord+1), api.ErrForm},
		{"no as many as may be, short", bytes("a", 0, api.MaxWord), api.ErrShort},
		{"yes above, a bad name and bytes behind", bytes("?", api.MaxWord+1, -1, -1), api.ErrForm},
		{"yes above, a word too long behind", bytes("a", api.MaxWord+1, api.MaxWord+1), api.ErrForm},
		{"yes short, no above", bytes("a", 2, x), api.ErrShort},
		{"a word too long, no above", bytes("a", 1, api.MaxWord+1, api.MaxWord+1), api.ErrLong},
		// layer 1's errors come ahead of what is no good task
		{"empty", "", api.ErrShort},
		{"a bad number", "\x08", api.ErrForm},
		{"a name's length", bytes(api.MaxText + 1), api.ErrLong},
		{"a name's length below", bytes(-1), api.ErrForm},
		{"a bad name, then short", bytes("?", 1), api.ErrShort},
		{"a word too long", bytes("a", 1, api.MaxWord+1), api.ErrLong},
		{"a word too long, all there", bytes("a", 1, append(full[:api.MaxWord:api.MaxWord], "x"), 0, false, weight), api.ErrLong},
		{"a no too long", bytes("?", 0, 2, x, api.MaxWord+1), api.ErrLong},
		{"a word below", bytes("a", 1, -1), api.ErrForm},
		{"a word as long as may be, short", bytes("a", 1, api.MaxWord), api.ErrShort},
		{"a text's length", bytes("a", 1, 1, api.MaxText+1), api.ErrLong},
		{"no yes and no no", bytes("a", 0, 0) + "\x02", api.ErrForm},
		{"no words, then short", bytes("a", 0, 0), api.ErrShort},
		{"no words, then a weight's length", bytes("a", 0, 0, true, api.MaxText+1), api.ErrLong},
		{"a weight that is short of bytes", bytes("a", 1, x, 0, true, 8) + weight[:7], api.ErrShort},
		// what is left comes last
		{"one left", bytes("a", 1, x, 0, false, weight, 0), api.ErrTail},
		{"one left behind no good task", bytes("a", 0, 0, false, weight, 0), api.ErrForm},
		{"one left behind no weight", bytes("a", 1, x, 0, false, "?", 0), api.ErrForm},
	} {
		got, err := task.Get(c.s)
		if err != c.want || err != api.OK && told(got) != nothing {
			t.Errorf("%s: %s %d, not %d", c.what, told(got), err, c.want)
		}
		if err == api.OK && (task.Put(got) != c.s || !task.Good(got)) {
			t.Error(c.what, told(got))
		}
	}
	s := bytes("a", 2, x, full, 1, []string{}, true, weight)
	for k := range s {
		if got, err := task.Get(s[:k]); err != api.ErrShort || told(got) != nothing {
			t.Error(k, told(got), err)
		}
	}
}
