package school_test

import (
	"fmt"
	"math"
	"slices"
	"strings"
	"testing"

	"primer/api"
	"primer/command"
	"primer/marks"
	"primer/school"
	"primer/task"
)

// A body is what a command has as its Text.
type body string

// of a kind a command: names, then numbers, a body, a word, as far as there are any.
func of(kind int, who string, things ...any) command.Command {
	c := command.Command{Kind: kind, Who: who}
	names, nums := []*string{&c.Name, &c.Other}, 0
	for _, x := range things {
		switch x := x.(type) {
		case string:
			*names[0] = x
			names = names[1:]
		case int:
			c.Nums[nums] = x
			nums++
		case body:
			c.Text = string(x)
		case []string:
			c.Word = x
		}
	}
	return c
}

// told: a reply as a text, and the same text for the same replies alone.
func told(r command.Reply) string {
	s := fmt.Sprintf("%d %d %d %d %q %q", r.Code, r.Line, r.Col, r.Count, r.Text, slices.Concat(r.Texts))
	for _, f := range r.Marks {
		s += " " + marks.Show(f)
	}
	return s
}

// code: a reply with that code alone.
func code(err api.Errno) string {
	return told(command.Reply{Code: err})
}

// must: each of some commands is answered without an error.
func must(t *testing.T, s *school.School, l ...command.Command) {
	t.Helper()
	for _, c := range l {
		if r := s.Apply(c); r.Code != api.OK {
			t.Fatal(c, told(r))
		}
	}
}

// expect an answer; of an error, that nothing has changed.
func expect(t *testing.T, s *school.School, c command.Command, want string) {
	t.Helper()
	was := s.Snapshot()
	r := s.Apply(c)
	if told(r) != want {
		t.Errorf("%v: %s, not %s", c, told(r), want)
	}
	if r.Code != api.OK && s.Snapshot() != was {
		t.Error(c, told(r), "changed something")
	}
}

// two is a task: x x is a word, x isn't.
func two(name string) task.Task {
	return task.Task{Name: name, Yes: [][]string{{"x", "x"}}, No: [][]string{{"x"}}, Weight: 1}
}

func put(t task.Task) body {
	return body(task.Put(t))
}

// small: two teachers, three students, three classes, some of whom are in some of which; maths has two tasks.
func small(t *testing.T) *school.School {
	t.Helper()
	s := school.New()
	clear := two("clear")
	clear.Clear, clear.Weight = true, 3
	must(t, s,
		of(command.Enrol, "tea", "tea", 2), of(command.Enrol, "tea", "Tim", 2),
		of(command.Enrol, "Tim", "ann", 1), of(command.Enrol, "tea", "bob", 1), of(command.Enrol, "tea", "cy", 1),
		of(command.Open, "tea", "maths"), of(command.Open, "Tim", "art"), of(command.Open, "tea", "zoo"),
		of(command.Join, "tea", "maths", "bob"), of(command.Join, "tea", "maths", "ann"), of(command.Join, "Tim", "art", "cy"), of(command.Join, "Tim", "art", "ann"),
		of(command.Assign, "tea", "maths", put(two("two"))), of(command.Assign, "tea", "maths", put(clear)))
	return s
}

// done: small, in which ann and bob have done something, too.
func done(t *testing.T) *school.School {
	t.Helper()
	s := small(t)
	must(t, s,
		of(command.Edit, "ann", body("a:'x'*;")), of(command.Submit, "ann", "maths", "two"),
		of(command.Edit, "bob", body("a:'x' 'x';")), of(command.Submit, "bob", "maths", "two"), of(command.Submit, "bob", "maths", "clear"),
		of(command.Assign, "Tim", "art", put(two("two"))), of(command.Submit, "ann", "art", "two"), of(command.Edit, "tea", body("t: ;")))
	return s
}

func TestNobody(t *testing.T) {
	for _, c := range []command.Command{
		of(command.Leave, "a", "a"), of(command.Grant, "a", "a", 5), of(command.Open, "a", "c"), of(command.Close, "a", "c"), of(command.Join, "a", "c", "a"), of(command.Part, "a", "c", "a"),
		of(command.Assign, "a", "c"), of(command.Edit, "a", body("a: ;")), of(command.Change, "a", 4), of(command.Undo, "a"), of(command.Redo, "a"), of(command.Show, "a"), of(command.List, "a"),
		of(command.Parse, "a"), of(command.Words, "a", 3), of(command.Submit, "a", "c", "t"), of(command.Marks, "a", "c"),
	} {
		expect(t, school.New(), c, code(api.ErrNone))
	}
	for _, c := range []command.Command{
		of(command.Enrol, "a", "b", 2), of(command.Enrol, "a", "a", 1), of(command.Enrol, "a", "a", 0), of(command.Enrol, "a", "a", 3), of(command.Enrol, "a", "a"), of(command.Enrol, "a", 2), of(command.Enrol, "a", "A", 2),
	} {
		expect(t, school.New(), c, code(api.ErrRole))
	}
	s := school.New()
	expect(t, s, of(command.Enrol, "a", "a", 2), code(api.OK))
	expect(t, s, of(command.Enrol, "b", "b", 2), code(api.ErrNone))
	expect(t, s, of(command.Leave, "a", "a"), code(api.OK))
	if s.Snapshot() != school.New().Snapshot() {
		t.Error("somebody is left")
	}
	expect(t, s, of(command.Enrol, "b", "b", 2), code(api.OK))
}

// TestZero: a school that wasn't made by New has nobody, too.
func TestZero(t *testing.T) {
	s := new(school.School)
	if s.Snapshot() != school.New().Snapshot() || s.Copy().Snapshot() != s.Snapshot() {
		t.Errorf("%x", s.Snapshot())
	}
	expect(t, s, of(command.Show, "a"), code(api.ErrNone))
	must(t, s, of(command.Enrol, "a", "a", 2), of(command.Edit, "a", body("a: ;")))
}

func TestExample(t *testing.T) {
	s := school.New()
	expect(t, s, of(command.Enrol, "a", "a", 2), code(api.OK))
	expect(t, s, of(command.Open, "a", "c"), code(api.OK))
	expect(t, s, of(command.Join, "a", "c", "x"), code(api.ErrNone))
}

// TestRun: whatever there is of who may do what to whom; each of a small school.
func TestRun(t *testing.T) {
	bad := two("two")
	bad.Weight = -1
	for _, x := range []struct {
		c    command.Command
		want api.Errno
	}{
		// a stranger
		{of(command.Enrol, "who", "who", 2), api.ErrNone}, {of(command.Leave, "who", "who"), api.ErrNone}, {of(command.Show, "who"), api.ErrNone}, {of(command.Show, "who", "ann"), api.ErrNone}, {of(command.Marks, "who", "maths"), api.ErrNone}, {of(command.Close, "who", "maths"), api.ErrNone},
		// the office's
		{of(command.Enrol, "tea", "dan", 1), api.OK}, {of(command.Enrol, "Tim", "dan", 2), api.OK}, {of(command.Enrol, "ann", "dan", 1), api.ErrRole}, {of(command.Enrol, "ann", "ann", 2), api.ErrRole}, {of(command.Enrol, "ann", "9", 7), api.ErrArg},
		{of(command.Enrol, "ann", 7), api.ErrRole}, {of(command.Enrol, "tea", 1), api.ErrName}, {of(command.Enrol, "tea", "dan", 3), api.ErrKind}, {of(command.Enrol, "tea", "dan"), api.ErrKind}, {of(command.Enrol, "tea", "ann", 1), api.ErrExists}, {of(command.Enrol, "tea", "tea", 2), api.ErrExists},
		{of(command.Grant, "tea", "ann", 0), api.OK}, {of(command.Grant, "tea", "Tim", api.MaxText), api.OK}, {of(command.Grant, "ann", "ann", 5), api.ErrRole}, {of(command.Grant, "ann", "who", 5), api.ErrRole}, {of(command.Grant, "tea", "who", 5), api.ErrNone}, {of(command.Grant, "tea", 5), api.ErrNone},
		{of(command.Grant, "tea", "ann", -1), api.ErrArg}, {of(command.Grant, "tea", "ann", api.MaxText+1), api.ErrArg},
		{of(command.Open, "tea", "new"), api.OK}, {of(command.Open, "Tim", "ann"), api.OK}, {of(command.Open, "ann", "new"), api.ErrRole}, {of(command.Open, "ann", "maths"), api.ErrRole}, {of(command.Open, "tea", "maths"), api.ErrExists}, {of(command.Open, "tea"), api.ErrName},
		// those who leave
		{of(command.Leave, "tea", "ann"), api.OK}, {of(command.Leave, "ann", "ann"), api.OK}, {of(command.Leave, "ann", "bob"), api.ErrRole}, {of(command.Leave, "ann", "who"), api.ErrRole}, {of(command.Leave, "ann"), api.ErrRole}, {of(command.Leave, "ann", "tea"), api.ErrRole},
		{of(command.Leave, "tea", "who"), api.ErrNone}, {of(command.Leave, "tea"), api.ErrNone}, {of(command.Leave, "tea", "tea"), api.ErrState}, {of(command.Leave, "Tim", "tea"), api.ErrState},
		// a class's
		{of(command.Close, "tea", "maths"), api.OK}, {of(command.Close, "tea", "zoo"), api.OK}, {of(command.Close, "Tim", "maths"), api.ErrRole}, {of(command.Close, "ann", "maths"), api.ErrRole}, {of(command.Close, "ann", "none"), api.ErrNone}, {of(command.Close, "tea", "none"), api.ErrNone}, {of(command.Close, "tea"), api.ErrNone},
		{of(command.Join, "tea", "maths", "cy"), api.OK}, {of(command.Join, "Tim", "maths", "cy"), api.ErrRole}, {of(command.Join, "cy", "maths", "cy"), api.ErrRole}, {of(command.Join, "cy", "none", "cy"), api.ErrNone}, {of(command.Join, "tea", "none", "cy"), api.ErrNone},
		{of(command.Join, "tea", "maths", "who"), api.ErrNone}, {of(command.Join, "tea", "maths"), api.ErrNone}, {of(command.Join, "tea", "maths", "Tim"), api.ErrRole}, {of(command.Join, "tea", "maths", "tea"), api.ErrRole}, {of(command.Join, "tea", "maths", "ann"), api.ErrExists},
		{of(command.Part, "tea", "maths", "ann"), api.OK}, {of(command.Part, "ann", "maths", "ann"), api.OK}, {of(command.Part, "ann", "maths", "bob"), api.ErrRole}, {of(command.Part, "Tim", "maths", "ann"), api.ErrRole}, {of(command.Part, "ann", "maths"), api.ErrRole}, {of(command.Part, "ann", "maths", "who"), api.ErrRole},
		{of(command.Part, "ann", "none", "ann"), api.ErrNone}, {of(command.Part, "cy", "maths", "cy"), api.ErrNone}, {of(command.Part, "Tim", "maths", "Tim"), api.ErrNone}, {of(command.Part, "tea", "maths", "cy"), api.ErrNone}, {of(command.Part, "tea", "maths", "tea"), api.ErrNone}, {of(command.Part, "tea", "maths"), api.ErrNone},
		{of(command.Assign, "tea", "maths", put(two("new"))), api.OK}, {of(command.Assign, "tea", "zoo", put(two("two"))), api.OK}, {of(command.Assign, "Tim", "maths", put(two("new"))), api.ErrRole}, {of(command.Assign, "ann", "maths"), api.ErrRole}, {of(command.Assign, "ann", "none"), api.ErrNone}, {of(command.Assign, "tea", "none", put(two("new"))), api.ErrNone},
		{of(command.Assign, "tea", "maths"), api.ErrShort}, {of(command.Assign, "tea", "maths", put(bad)), api.ErrForm}, {of(command.Assign, "tea", "maths", put(two("two"))+"\x00"), api.ErrTail}, {of(command.Assign, "tea", "maths", put(two("two"))), api.ErrExists}, {of(command.Assign, "tea", "maths", body("\x03\x01\x00\x01")), api.ErrLong},
	} {
		expect(t, small(t), x.c, code(x.want))
	}
}

func TestMaxTasks(t *testing.T) {
	s := small(t)
	for k := 2; k < api.MaxTasks; k++ {
		must(t, s, of(command.Assign, "tea", "maths", put(two(fmt.Sprint("t", k)))))
	}
	expect(t, s, of(command.Assign, "tea", "maths", put(two("more"))), code(api.ErrQuota))
	expect(t, s, of(command.Assign, "tea", "maths", put(two("two"))), code(api.ErrExists))
	expect(t, s, of(command.Assign, "tea", "maths", body("?")), code(api.ErrForm))
	must(t, s, of(command.Assign, "tea", "zoo", put(two("more"))))
	r := s.Apply(of(command.Marks, "ann", "maths"))
	if len(r.Texts) != api.MaxTasks || r.Texts[0] != "two" || r.Texts[1] != "clear" || r.Texts[63] != "t63" { // in the order in which they came
		t.Error(told(r))
	}
	if again, err := school.Restore(s.Snapshot()); err != api.OK || again.Snapshot() != s.Snapshot() {
		t.Error(err)
	}
}

// TestGone: what goes with those who leave or part, and with a class.
func TestGone(t *testing.T) {
	none := func(names ...string) string {
		r := command.Reply{Texts: names}
		for range names {
			r.Marks = append(r.Marks, math.NaN())
		}
		return told(r)
	}
	all := told(command.Reply{Texts: []string{"ann", "bob"}, Marks: []float64{50, 100}})
	s := done(t)
	expect(t, s, of(command.Marks, "tea", "maths"), all)
	expect(t, s, of(command.Marks, "ann", "art"), told(command.Reply{Texts: []string{"two"}, Marks: []float64{50}}))

	must(t, s, of(command.Part, "ann", "maths", "ann"), of(command.Join, "tea", "maths", "ann"))
	expect(t, s, of(command.Marks, "ann", "maths"), none("two", "clear"))
	expect(t, s, of(command.Marks, "ann", "art"), told(command.Reply{Texts: []string{"two"}, Marks: []float64{50}}))
	expect(t, s, of(command.Marks, "bob", "maths"), told(command.Reply{Texts: []string{"two", "clear"}, Marks: []float64{100, 100}}))
	expect(t, s, of(command.Show, "ann"), told(command.Reply{Text: "a: 'x'*;\n", Count: 1}))

	s = done(t)
	must(t, s, of(command.Leave, "tea", "ann"), of(command.Enrol, "tea", "ann", 1), of(command.Join, "tea", "maths", "ann"), of(command.Join, "Tim", "art", "ann"))
	expect(t, s, of(command.Marks, "ann", "maths"), none("two", "clear"))
	expect(t, s, of(command.Marks, "ann", "art"), none("two"))
	expect(t, s, of(command.Show, "ann"), code(api.OK))
	expect(t, s, of(command.Undo, "ann"), code(api.ErrState))
	expect(t, s, of(command.Marks, "bob", "maths"), told(command.Reply{Texts: []string{"two", "clear"}, Marks: []float64{100, 100}}))

	s = done(t)
	must(t, s, of(command.Close, "tea", "maths"), of(command.Open, "tea", "maths"), of(command.Join, "tea", "maths", "bob"))
	expect(t, s, of(command.Marks, "bob", "maths"), code(api.OK))
	expect(t, s, of(command.Submit, "bob", "maths", "two"), code(api.ErrNone))
	must(t, s, of(command.Assign, "tea", "maths", put(two("two"))))
	expect(t, s, of(command.Marks, "bob", "maths"), none("two"))
	expect(t, s, of(command.Marks, "ann", "art"), told(command.Reply{Texts: []string{"two"}, Marks: []float64{50}}))
	expect(t, s, of(command.Show, "bob"), told(command.Reply{Text: "a: 'x' 'x';\n", Count: 1}))

	// what is refused leaves all of it
	s = done(t)
	for _, c := range []command.Command{of(command.Leave, "tea", "tea"), of(command.Part, "ann", "maths", "bob"), of(command.Close, "Tim", "maths"), of(command.Leave, "bob", "ann")} {
		if r := s.Apply(c); r.Code == api.OK || s.Snapshot() != done(t).Snapshot() {
			t.Error(c, told(r))
		}
	}
	expect(t, s, of(command.Marks, "tea", "maths"), all)
}

func TestDrafts(t *testing.T) {
	s := small(t)
	draft := func(text string, count int) string { return told(command.Reply{Text: text, Count: count}) }
	fault := func(err api.Errno, line, col int) string {
		return told(command.Reply{Code: err, Line: line, Col: col})
	}
	for _, x := range []struct {
		c    command.Command
		want string
	}{
		{of(command.Show, "ann"), draft("", 0)},
		{of(command.List, "ann"), code(api.ErrState)},
		{of(command.Undo, "ann"), code(api.ErrState)},
		{of(command.Redo, "ann"), code(api.ErrState)},
		{of(command.Change, "ann", 4), code(api.ErrState)},
		{of(command.Change, "ann", 9), code(api.ErrState)},
		{of(command.Edit, "ann"), fault(api.ErrForm, 1, 1)},
		{of(command.Edit, "ann", body("a: b;\nb: 'x")), fault(api.ErrForm, 2, 6)},
		{of(command.Edit, "ann", body("a: b;")), code(api.ErrNone)},
		{of(command.Edit, "ann", body("a:b|'x';b:'y';")), draft("a: b|'x';\nb: 'y';\n", 1)},
		{of(command.Edit, "ann", body("a: 'x")), fault(api.ErrForm, 1, 6)},
		{of(command.Change, "ann", 9), code(api.ErrKind)},
		{of(command.Change, "ann", 1, "b", "c"), draft("a: c|'x';\nc: 'y';\n", 2)},
		{of(command.Change, "ann", 3, "a", "d", 1, 0, 1), draft("a: c|d;\nc: 'y';\nd: 'x';\n", 3)},
		{of(command.Change, "ann", 3, "a", "e", 5, 0, 1), code(api.ErrArg)},
		{of(command.Change, "ann", 2, "c"), draft("a: 'y'|d;\nd: 'x';\n", 4)},
		{of(command.Change, "ann", 2, "none"), code(api.ErrNone)},
		{of(command.Undo, "ann"), draft("a: c|d;\nc: 'y';\nd: 'x';\n", 3)},
		{of(command.Undo, "ann"), draft("a: c|'x';\nc: 'y';\n", 2)},
		{of(command.Redo, "ann"), draft("a: c|d;\nc: 'y';\nd: 'x';\n", 3)},
		{of(command.Show, "ann"), draft("a: c|d;\nc: 'y';\nd: 'x';\n", 3)},
		{of(command.Show, "bob"), draft("", 0)},
		{of(command.Edit, "ann", body("long:'x'|[short];short: ;")), draft("long: 'x'|short?;\nshort: ;\n", 4)},
		{of(command.Redo, "ann"), code(api.ErrState)},
		{of(command.List, "ann"), told(command.Reply{Texts: []string{"long : 'x'", "     | short?", "short: "}})},
		{of(command.Edit, "ann", body("a: b;b:'x'|;c:b;")), draft("a: b;\nb: 'x'|;\nc: b;\n", 5)},
		{of(command.Change, "ann", 4), draft("a: b;\nb: 'x'|;\n", 6)},
		{of(command.Edit, "ann", body("a:'x'+;")), draft("a: 'x'+;\n", 7)},
		{of(command.Change, "ann", 5), draft("a: a-1;\na-1: 'x'|'x' a-1;\n", 8)},
	} {
		expect(t, s, x.c, x.want)
	}
}

func TestQuota(t *testing.T) {
	s := small(t)
	must(t, s, of(command.Edit, "ann", body("a:b 'x';b:'y'|;")), of(command.Grant, "tea", "ann", 8))
	expect(t, s, of(command.Edit, "ann", body("aa: 'x';")), code(api.ErrQuota))
	expect(t, s, of(command.Change, "ann", 2, "b"), code(api.ErrQuota))
	must(t, s, of(command.Edit, "ann", body("a:'x';")), of(command.Undo, "ann"), of(command.Redo, "ann"))
	must(t, s, of(command.Edit, "bob", body("aa: 'x';")))
	must(t, s, of(command.Grant, "tea", "ann", 0))
	expect(t, s, of(command.Edit, "ann", body("a: ;")), code(api.ErrQuota))
	must(t, s, of(command.Grant, "tea", "ann", 9))
	must(t, s, of(command.Edit, "ann", body("aa: 'x';")))
}

func TestMaxUndo(t *testing.T) {
	s := small(t)
	for k := range api.MaxUndo + 5 {
		r := s.Apply(of(command.Edit, "ann", body(fmt.Sprintf("a: 'x%d';", k))))
		if r.Code != api.OK || r.Count != min(k+1, api.MaxUndo) {
			t.Error(k, told(r))
		}
	}
	for k := api.MaxUndo + 3; k >= 4; k-- {
		expect(t, s, of(command.Undo, "ann"), told(command.Reply{Text: fmt.Sprintf("a: 'x%d';\n", k), Count: k - 4}))
	}
	expect(t, s, of(command.Undo, "ann"), code(api.ErrState))
	if again, err := school.Restore(s.Snapshot()); err != api.OK || again.Snapshot() != s.Snapshot() {
		t.Error(err)
	}
}

// TestLook: who may look at whose draft.
func TestLook(t *testing.T) {
	s := done(t)
	for _, x := range []struct {
		who, name, want string
		err             api.Errno
	}{
		{"ann", "", "a: 'x'*", api.OK}, {"ann", "ann", "a: 'x'*", api.OK}, {"tea", "ann", "a: 'x'*", api.OK}, {"Tim", "ann", "a: 'x'*", api.OK},
		{"tea", "bob", "a: 'x' 'x'", api.OK}, {"Tim", "bob", "", api.ErrRole}, {"ann", "bob", "", api.ErrRole}, {"ann", "tea", "", api.ErrRole}, {"tea", "Tim", "", api.ErrRole},
		{"tea", "tea", "t: ", api.OK}, {"tea", "", "t: ", api.OK}, {"ann", "who", "", api.ErrNone}, {"tea", "maths", "", api.ErrNone},
		{"Tim", "cy", "", api.ErrState}, {"tea", "cy", "", api.ErrRole}, {"cy", "", "", api.ErrState}, {"Tim", "Tim", "", api.ErrState},
	} {
		list, show := command.Reply{Code: x.err}, command.Reply{Code: x.err}
		if x.err == api.OK {
			list.Texts, show.Text, show.Count = []string{x.want}, x.want+";\n", 1
		}
		if x.err == api.ErrState {
			show.Code = api.OK
		}
		expect(t, s, of(command.List, x.who, x.name), told(list))
		expect(t, s, of(command.Show, x.who, x.name), told(show))
	}
	must(t, s, of(command.Undo, "ann"))
	expect(t, s, of(command.List, "ann"), code(api.ErrState)) // back at no text
	expect(t, s, of(command.Parse, "ann"), code(api.ErrState))
	expect(t, s, of(command.Words, "ann", 99), code(api.ErrState))
	expect(t, s, of(command.Submit, "ann", "maths", "two"), code(api.ErrState))
	expect(t, s, of(command.Show, "ann"), code(api.OK))
}

func TestParse(t *testing.T) {
	yes := func(count int, text string) string { return told(command.Reply{Count: count, Text: text}) }
	no := func(col int, texts ...string) string { return told(command.Reply{Col: col, Texts: texts}) }
	for _, x := range []struct {
		text, word, want string
	}{
		{"S:'x'* a;a:'y'|;", "x y", yes(1, "(S 'x' (a 'y'))")},
		{"S:'x'* a;a:'y'|;", "", yes(1, "(S (a))")},
		{"S:S S|'x';", "x x x x", yes(5, "(S (S 'x') (S (S 'x') (S (S 'x') (S 'x'))))")},
		{"S:S S|'x';", "", no(0, "x")},
		{"S:S S|'x';", "y", no(0, "x")},
		{"S:S S|'x';", "x x y x x", no(2, "x")},
		{"S:'x' S 'y'|'z';", "x x y", no(2, "x", "z")},
		{"S:'x' S 'y'|'z';", "x x", no(2, "x", "z")},
		{"S:'x' S 'y'|'z';", "x z", no(2, "y")},
		{"S:'x' S 'y'|'z';", "z z", no(1)},
		{"S:'x' S 'y'|'z';", "z ?", no(1)},
		{"S:'x' S 'y'|'z';", "? z", no(0, "x", "z")},
		{"S:'z'|'y' S|'x';", "", no(0, "z", "y", "x")}, // in the order of their numbers
		{"%T;S:'q';T:'x'\"'\";", "x '", yes(1, `(T 'x' "'")`)},
		{"%T;S:'q';T:'x'\"'\";", "x q", no(1, "'")},
		{"S:S 'x';", "x", no(0)}, // of no words
		{"S:S 'x';", "", no(0)},
		{"S:S 'x';", "?", no(0)},
		{"S:a|'x';a:S;", "x", yes(1, "(S 'x')")}, // one tree of the normal form, although the grammar's own have no bound
	} {
		s := small(t)
		must(t, s, of(command.Edit, "ann", body(x.text)))
		expect(t, s, of(command.Parse, "ann", strings.Fields(x.word)), x.want)
	}
	s := small(t)
	must(t, s, of(command.Edit, "ann", body("S:'x'|S S;")))
	expect(t, s, of(command.Parse, "ann", slices.Repeat([]string{"x"}, api.MaxWord)), told(command.Reply{Count: api.MaxCount, Text: s.Apply(of(command.Parse, "ann", slices.Repeat([]string{"x"}, api.MaxWord))).Text}))
	expect(t, s, of(command.Parse, "ann", append(slices.Repeat([]string{"x"}, api.MaxWord-1), "")), no(api.MaxWord-1, "x"))
	expect(t, s, of(command.Parse, "ann", slices.Repeat([]string{"x"}, api.MaxWord+1)), code(api.ErrArg))
	expect(t, s, of(command.Parse, "bob", []string{"x"}), code(api.ErrState))
}

// doubled: the least tree of the empty word has 2^deep - 1 nodes.
func doubled(deep int) body {
	s := ""
	for k := 1; k < deep; k++ {
		s += fmt.Sprintf("n%d: n%d n%d;", k, k+1, k+1)
	}
	return body(s + fmt.Sprintf("n%d: ;", deep))
}

func TestParseOfGreatTrees(t *testing.T) {
	for _, x := range []struct {
		deep int
		want api.Errno
	}{
		{9, api.OK},       // 511 nodes
		{11, api.ErrLong}, // of a text above MaxCommand
		{14, api.ErrLong}, // above MaxText
		{17, api.ErrLong}, // more than 65536 nodes
		{20, api.ErrLong},
	} {
		s := small(t)
		must(t, s, of(command.Edit, "ann", doubled(x.deep)))
		was := s.Snapshot()
		r := s.Apply(of(command.Parse, "ann"))
		if r.Code != x.want || s.Snapshot() != was {
			t.Error(x.deep, r.Code)
		}
		if x.want != api.OK {
			if told(r) != code(x.want) {
				t.Error(x.deep, "tells more than a code")
			}
		} else if r.Count != 1 || strings.Count(r.Text, "(") != 511 {
			t.Error(x.deep, told(r))
		}
	}
}

func TestWords(t *testing.T) {
	s := small(t)
	must(t, s, of(command.Edit, "ann", body(`S:"'" S|'\n'|;`)))
	for _, x := range []struct {
		most int
		want string
	}{
		{0, told(command.Reply{Count: 1, Texts: []string{""}})},
		{1, told(command.Reply{Count: 3, Texts: []string{"", `"'"`, `'\n'`}})},
		{2, told(command.Reply{Count: 5, Texts: []string{"", `"'"`, `'\n'`, `"'" "'"`, `"'" '\n'`}})},
		{-1, code(api.ErrArg)}, {api.MaxWord + 1, code(api.ErrArg)},
	} {
		expect(t, s, of(command.Words, "ann", x.most), x.want)
	}
	must(t, s, of(command.Edit, "ann", body("S: S 'x';")))
	expect(t, s, of(command.Words, "ann", 5), code(api.OK))
	must(t, s, of(command.Edit, "ann", body("S: S S|'x'|'y';")))
	expect(t, s, of(command.Words, "ann", 12), code(api.ErrLong)) // too many words
	expect(t, s, of(command.Words, "ann", 9), code(api.ErrLong))  // 1022 words of too many bytes
	if r := s.Apply(of(command.Words, "ann", 7)); r.Code != api.OK || r.Count != 254 || len(r.Texts) != 254 {
		t.Error(told(r))
	}
	expect(t, s, of(command.Words, "bob", 2), code(api.ErrState))
	expect(t, s, of(command.Words, "bob", -1), code(api.ErrState))
}

func TestSubmit(t *testing.T) {
	s := small(t)
	result := func(right, all int, mark float64) string {
		return told(command.Reply{Count: right, Line: all, Marks: []float64{mark}})
	}
	mine := func(a, b float64) string {
		return told(command.Reply{Texts: []string{"two", "clear"}, Marks: []float64{a, b}})
	}
	none := math.NaN()
	for _, x := range []struct {
		c    command.Command
		want string
	}{
		{of(command.Submit, "ann", "none", "two"), code(api.ErrNone)},
		{of(command.Submit, "tea", "maths", "two"), code(api.ErrRole)},
		{of(command.Submit, "cy", "maths", "two"), code(api.ErrRole)},
		{of(command.Submit, "cy", "maths", "none"), code(api.ErrRole)},
		{of(command.Submit, "ann", "maths", "none"), code(api.ErrNone)},
		{of(command.Submit, "ann", "maths"), code(api.ErrNone)},
		{of(command.Submit, "ann", "maths", "two"), code(api.ErrState)},
		{of(command.Marks, "ann", "maths"), mine(none, none)},
		{of(command.Edit, "ann", body("S:'x';")), told(command.Reply{Text: "S: 'x';\n", Count: 1})},
		{of(command.Submit, "ann", "maths", "two"), result(0, 2, 0)},
		{of(command.Marks, "ann", "maths"), mine(0, none)},
		{of(command.Edit, "ann", body("S:a a;a:'x'|;")), told(command.Reply{Text: "S: a a;\na: 'x'|;\n", Count: 2})},
		{of(command.Submit, "ann", "maths", "two"), result(1, 2, 50)},
		{of(command.Marks, "ann", "maths"), mine(50, none)},
		{of(command.Edit, "ann", body("S:a|b;a:'x' 'x';b:'x' c;c:'x';")), told(command.Reply{Text: "S: a|b;\na: 'x' 'x';\nb: 'x' c;\nc: 'x';\n", Count: 3})},
		{of(command.Submit, "ann", "maths", "two"), result(2, 2, 100)},
		{of(command.Submit, "ann", "maths", "clear"), result(1, 2, 50)}, // of two trees
		{of(command.Marks, "ann", "maths"), mine(100, 50)},
		{of(command.Edit, "ann", body("S:'x';")), told(command.Reply{Text: "S: 'x';\n", Count: 4})},
		{of(command.Submit, "ann", "maths", "two"), result(0, 2, 0)}, // a lesser one doesn't count
		{of(command.Submit, "ann", "maths", "clear"), result(0, 2, 0)},
		{of(command.Marks, "ann", "maths"), mine(100, 50)},
		{of(command.Marks, "bob", "maths"), mine(none, none)},
	} {
		expect(t, s, x.c, x.want)
	}
}

func TestMarks(t *testing.T) {
	s := done(t)
	must(t, s, of(command.Edit, "ann", body("a:'x';")), of(command.Submit, "ann", "maths", "clear")) // 50 of weight 1, 0 of 3
	for _, x := range []struct {
		who, class, want string
	}{
		{"tea", "maths", told(command.Reply{Texts: []string{"ann", "bob"}, Marks: []float64{12.5, 100}})},
		{"ann", "maths", told(command.Reply{Texts: []string{"two", "clear"}, Marks: []float64{50, 0}})},
		{"bob", "maths", told(command.Reply{Texts: []string{"two", "clear"}, Marks: []float64{100, 100}})},
		{"Tim", "art", told(command.Reply{Texts: []string{"ann", "cy"}, Marks: []float64{50, math.NaN()}})},
		{"cy", "art", told(command.Reply{Texts: []string{"two"}, Marks: []float64{math.NaN()}})},
		{"tea", "zoo", code(api.OK)}, // nobody is in it
		{"Tim", "maths", code(api.ErrRole)}, {"cy", "maths", code(api.ErrRole)}, {"ann", "zoo", code(api.ErrRole)}, {"tea", "art", code(api.ErrRole)},
		{"ann", "none", code(api.ErrNone)}, {"tea", "", code(api.ErrNone)}, {"who", "none", code(api.ErrNone)},
	} {
		expect(t, s, of(command.Marks, x.who, x.class), x.want)
	}
	must(t, s, of(command.Join, "tea", "zoo", "cy"))
	expect(t, s, of(command.Marks, "tea", "zoo"), told(command.Reply{Texts: []string{"cy"}, Marks: []float64{math.NaN()}})) // of no tasks
	expect(t, s, of(command.Marks, "cy", "zoo"), code(api.OK))
}

// TestTwoClasses: tasks and marks of one name in two classes have nothing to do with each other.
func TestTwoClasses(t *testing.T) {
	s := done(t)
	must(t, s, of(command.Edit, "ann", body("a:'x' 'x';")), of(command.Submit, "ann", "art", "two"))
	expect(t, s, of(command.Marks, "ann", "art"), told(command.Reply{Texts: []string{"two"}, Marks: []float64{100}}))
	expect(t, s, of(command.Marks, "ann", "maths"), told(command.Reply{Texts: []string{"two", "clear"}, Marks: []float64{50, math.NaN()}}))
	must(t, s, of(command.Part, "Tim", "art", "ann"))
	expect(t, s, of(command.Marks, "ann", "maths"), told(command.Reply{Texts: []string{"two", "clear"}, Marks: []float64{50, math.NaN()}}))
	must(t, s, of(command.Close, "Tim", "art"))
	expect(t, s, of(command.Marks, "ann", "maths"), told(command.Reply{Texts: []string{"two", "clear"}, Marks: []float64{50, math.NaN()}}))
}
