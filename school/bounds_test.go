package school_test

import (
	"fmt"
	"math"
	"slices"
	"strings"
	"testing"

	"primer/api"
	"primer/command"
	"primer/draft"
	"primer/school"
)

// sized: a text in its own form, of so many bytes.
func sized(t *testing.T, size int) string {
	t.Helper()
	const row = "'xxxxxxxxxxxxxxxx' 'xxxxxxxxxxxxxxxx'|"
	ends := len(": ;\n")
	rows := max(0, size-ends-1) / len(row)
	text := strings.Repeat("n", size-ends-rows*len(row)) + ": " + strings.Repeat(row, rows) + ";\n"
	made, answer := draft.Accept(compact(text), api.MaxText)
	if answer.Code != api.OK || made.Text != text || len(text) != size {
		t.Fatal(size, answer)
	}
	return text
}

// compact: the same text without blanks.
func compact(text string) string {
	return strings.ReplaceAll(text, " ", "")
}

// sizes that sized can tell: those of a name of 1 to MaxName bytes.
func sizeable(size int) bool {
	return (size-5)%38 < api.MaxName
}

func TestSizes(t *testing.T) {
	for size := 5; size < 9000; size += 7 {
		if sizeable(size) {
			sized(t, size)
		}
	}
}

func TestWrong(t *testing.T) {
	var nobody *school.School
	for _, c := range []command.Command{{}, of(command.Enrol, "a", "a", 2), of(0, "a"), of(command.Edit, "a", body(strings.Repeat("x", api.MaxText)))} {
		if r := nobody.Apply(c); told(r) != code(api.ErrArg) {
			t.Error(c, told(r))
		}
	}
	s := small(t)
	for _, c := range []command.Command{
		{}, of(0, "tea"), of(19, "tea"), of(-1, "tea"), of(math.MaxInt, "tea"), of(command.Show, ""), of(command.Show, "9"), of(command.Show, "tea", "9"), of(command.Join, "tea", "maths", "a.b"),
		of(command.Enrol, "tea", strings.Repeat("n", api.MaxName+1), 1), of(command.Edit, "tea", body(strings.Repeat(" ", api.MaxText+1))),
		of(command.Parse, "tea", make([]string, api.MaxWord+1)), of(command.Parse, "tea", []string{strings.Repeat("x", api.MaxLiteral+1)}),
		of(command.Words, "tea", api.MaxNumber+1), of(command.Words, "tea", math.MinInt), of(command.Undo, "tea", 0, 0, 0, math.MaxInt),
	} {
		expect(t, s, c, code(api.ErrArg))
	}
}

// TestLongCommands: none of more than MaxCommand bytes is looked at.
func TestLongCommands(t *testing.T) {
	s := small(t)
	fit := of(command.Edit, "ann", body("a: ;"))
	fit.Text += strings.Repeat("#", api.MaxCommand-len(command.Put(fit))-1) // one more, as the length takes a byte more from 256 on
	if n := len(command.Put(fit)); n != api.MaxCommand {
		t.Fatal(n)
	}
	long := fit
	long.Text += "#"
	expect(t, s, long, code(api.ErrLong))
	must(t, s, fit)
	expect(t, s, long, code(api.ErrLong))
	for _, kind := range []int{command.Enrol, command.Undo, command.Marks} { // also what has no need of a text, and of nobody
		long.Kind, long.Who = kind, "who"
		expect(t, s, long, code(api.ErrLong))
		fit.Kind, fit.Who = kind, "who"
		expect(t, s, fit, code(api.ErrNone))
	}
	long.Kind = 19
	expect(t, s, long, code(api.ErrArg))
	expect(t, school.New(), of(command.Edit, "a", body(strings.Repeat("x", api.MaxText))), code(api.ErrLong))
}

// TestLongReplies: what would be answered by more than MaxCommand bytes isn't done.
func TestLongReplies(t *testing.T) {
	s := small(t)
	must(t, s, of(command.Grant, "tea", "ann", api.MaxText))
	most := 0
	for size := api.MaxCommand - 40; size < api.MaxCommand; size++ {
		if !sizeable(size) {
			continue
		}
		text := sized(t, size)
		reply := command.Reply{Text: text, Count: 1}
		if len(command.PutReply(reply)) > api.MaxCommand {
			expect(t, s, of(command.Edit, "ann", body(compact(text))), code(api.ErrLong))
			expect(t, s, of(command.Show, "ann"), code(api.OK))
			continue
		}
		most = len(command.PutReply(reply))
		expect(t, s, of(command.Edit, "ann", body(compact(text))), told(reply))
		expect(t, s, of(command.Show, "tea", "ann"), told(reply))
		must(t, s, of(command.Undo, "ann"))
	}
	if most != api.MaxCommand {
		t.Error("none as long as may be:", most)
	}
}

// TestLongRestored: a draft that was restored may have texts that can't be told.
func TestLongRestored(t *testing.T) {
	long := sized(t, 8990)
	s, err := school.Restore(bytes(roll(t), 1, "ann", long, []string{"a: ;\n", long}, []string{"b: ;\n", long}, 0, 0))
	if err != api.OK {
		t.Fatal(err)
	}
	expect(t, s, of(command.Show, "ann"), code(api.ErrLong))
	expect(t, s, of(command.List, "ann"), code(api.ErrLong))
	expect(t, s, of(command.Undo, "ann"), code(api.ErrLong))
	expect(t, s, of(command.Redo, "ann"), code(api.ErrLong))
	expect(t, s, of(command.Words, "ann", 1), told(command.Reply{Count: 1, Texts: []string{""}}))
	expect(t, s, of(command.Edit, "ann", body("c: ;")), told(command.Reply{Text: "c: ;\n", Count: 3}))
}

func TestMaxState(t *testing.T) {
	s := small(t)
	must(t, s, of(command.Grant, "tea", "ann", api.MaxText))
	for range 4 {
		must(t, s, of(command.Edit, "ann", body(compact(sized(t, 6700)))), of(command.Edit, "ann", body("a: ;")))
	}
	left := func() int { return api.MaxState - len(s.Snapshot()) }
	for left() > 6000 {
		must(t, s, of(command.Edit, "ann", body(compact(sized(t, 1005)))))
	}
	// what an Edit adds beside its text is the length of that, and of what was the text
	size := left() - 3
	for !sizeable(size) {
		must(t, s, of(command.Edit, "ann", body("aa: ;")))
		size = left() - 3
	}
	for !sizeable(size + 1) {
		must(t, s, of(command.Enrol, "tea", fmt.Sprint("x", size), 1))
		size = left() - 3
	}
	expect(t, s, of(command.Edit, "ann", body(compact(sized(t, size+1)))), code(api.ErrQuota))
	must(t, s, of(command.Edit, "ann", body(compact(sized(t, size)))))
	if left() != 0 {
		t.Fatal(left())
	}
	full := s.Snapshot()
	for _, c := range []command.Command{of(command.Enrol, "tea", "new", 1), of(command.Open, "tea", "new"), of(command.Join, "tea", "zoo", "cy"), of(command.Assign, "tea", "zoo", put(two("two"))), of(command.Edit, "bob", body("a: ;")), of(command.Submit, "ann", "maths", "two")} {
		expect(t, s, c, code(api.ErrQuota))
	}
	expect(t, s, of(command.Edit, "ann", body("a: ")), told(command.Reply{Code: api.ErrForm, Line: 1, Col: 4}))
	expect(t, s, of(command.Marks, "ann", "maths"), told(command.Reply{Texts: []string{"two", "clear"}, Marks: []float64{math.NaN(), math.NaN()}}))
	expect(t, s, of(command.Undo, "ann"), code(api.ErrQuota)) // a text to go on to takes a byte more than none
	must(t, s, of(command.Grant, "tea", "ann", 1<<15))
	again, err := school.Restore(full)
	if err != api.OK || again.Snapshot() != full {
		t.Fatal(err)
	}
	must(t, again, of(command.Close, "Tim", "art"), of(command.Close, "tea", "zoo"), of(command.Edit, "bob", body("a: ;"))) // there is room again
}

// TestManyMembers: as many as may be, and one more.
func TestManyMembers(t *testing.T) {
	s := school.New()
	must(t, s, of(command.Enrol, "tea", "tea", 2))
	for k := 1; k < api.MaxMembers; k++ {
		must(t, s, of(command.Enrol, "tea", fmt.Sprintf("a-student-whose-name-has-some%d", k), 1))
	}
	expect(t, s, of(command.Enrol, "tea", "more", 1), code(api.ErrQuota))
	must(t, s, of(command.Open, "tea", "c"))
	var want command.Reply
	long := 0
	for k := 1; k < api.MaxMembers; k++ {
		name := fmt.Sprintf("a-student-whose-name-has-some%d", k)
		must(t, s, of(command.Join, "tea", "c", name))
		at, _ := slices.BinarySearch(want.Texts, name)
		want.Texts = slices.Insert(want.Texts, at, name)
		want.Marks = append(want.Marks, math.NaN())
		if len(command.PutReply(want)) <= api.MaxCommand {
			expect(t, s, of(command.Marks, "tea", "c"), told(want))
		} else {
			expect(t, s, of(command.Marks, "tea", "c"), code(api.ErrLong))
			long++
		}
	}
	if long == 0 {
		t.Error("no reply was too long")
	}
	for k := 1; k < api.MaxClasses; k++ {
		must(t, s, of(command.Open, "tea", fmt.Sprint("c", k)))
	}
	expect(t, s, of(command.Open, "tea", "more"), code(api.ErrQuota))
}
