package school_test

import (
	"fmt"
	"math"
	"slices"
	"strings"
	"testing"

	"primer/api"
	"primer/command"
	"primer/marks"
	"primer/octets"
	people "primer/roll"
	"primer/school"
	"primer/task"
)

// bytes of numbers, texts and lists of texts, one behind the other.
func bytes(things ...any) string {
	var o octets.Out
	for _, x := range things {
		switch x := x.(type) {
		case int:
			o.Int(x)
		case string:
			o.Text(x)
		case []string:
			o.Texts(x)
		}
	}
	s, ok := o.Bytes()
	if !ok {
		panic("no bytes")
	}
	return s
}

// roll of the small school, as bytes.
func roll(t *testing.T) string {
	t.Helper()
	var r people.Roll
	do := func(next people.Roll, err api.Errno) {
		if err != api.OK {
			t.Fatal(err)
		}
		r = next
	}
	do(r.Enrol("tea", 2))
	do(r.Enrol("Tim", 2))
	do(r.Enrol("ann", 1))
	do(r.Enrol("bob", 1))
	do(r.Enrol("cy", 1))
	do(r.Open("maths", "tea"))
	do(r.Open("art", "Tim"))
	do(r.Open("zoo", "tea"))
	do(r.Join("maths", "ann"))
	do(r.Join("maths", "bob"))
	do(r.Join("art", "ann"))
	do(r.Join("art", "cy"))
	return people.Put(r)
}

// clearTask is the small school's other one.
func clearTask() task.Task {
	t := two("clear")
	t.Clear, t.Weight = true, 3
	return t
}

func TestSnapshot(t *testing.T) {
	if got, want := school.New().Snapshot(), "\x01\x02\x00\x00"+"\x00"+"\x00"+"\x00"; got != want {
		t.Errorf("%x, not %x", got, want)
	}
	var nobody *school.School
	if got := nobody.Snapshot(); got != "" {
		t.Errorf("%x", got)
	}
	tasks := []string{task.Put(two("two")), task.Put(clearTask())}
	if got, want := small(t).Snapshot(), bytes(roll(t), 0, 1, "maths", tasks, 0); got != want {
		t.Errorf("%x, not %x", got, want)
	}
	s := done(t)
	must(t, s, of(command.Edit, "ann", body("b: ;")), of(command.Edit, "ann", body("c: ;")), of(command.Undo, "ann"), of(command.Undo, "ann"), of(command.Undo, "tea"))
	want := bytes(roll(t),
		3, "ann", "a: 'x'*;\n", []string{""}, []string{"c: ;\n", "b: ;\n"}, "bob", "a: 'x' 'x';\n", []string{""}, 0, "tea", "", 0, []string{"t: ;\n"},
		2, "art", []string{task.Put(two("two"))}, "maths", tasks,
		4, "art", "two", "ann", marks.Put(50), "maths", "clear", "bob", marks.Put(100), "maths", "two", "ann", marks.Put(50), "maths", "two", "bob", marks.Put(100))
	if got := s.Snapshot(); got != want {
		t.Errorf("%x, not %x", got, want)
	}
	must(t, s, of(command.Leave, "bob", "bob"), of(command.Close, "Tim", "art"))
	if got := s.Snapshot(); strings.Contains(got, "bob") || strings.Contains(got, "art") {
		t.Errorf("%q", got)
	}
}

// numbered texts that are accepted as they are.
func numbered(n int) []string {
	var l []string
	for k := range n {
		l = append(l, fmt.Sprintf("a: 'x%d';\n", k))
	}
	return l
}

// tasks of different names, as bytes.
func tasks(n int) []string {
	var l []string
	for k := range n {
		l = append(l, task.Put(two(fmt.Sprint("t", k))))
	}
	return l
}

func TestRestore(t *testing.T) {
	r, a, mark := roll(t), "a: ;\n", marks.Put(50)
	class := []any{1, "maths", []string{task.Put(two("two")), task.Put(two("clear"))}}
	of := func(l ...any) string { return bytes(append([]any{r}, l...)...) }
	marked := func(l ...any) string { return of(slices.Concat([]any{0}, class, l)...) }
	long := strings.Repeat("n", api.MaxText)
	for _, x := range []struct {
		what string
		s    string
		want api.Errno
	}{
		{"a school", of(0, 0, 0), api.OK},
		{"nobody", bytes("\x00\x00", 0, 0, 0), api.OK},
		{"nothing", "", api.ErrShort},
		// the roll
		{"a bad number", "\x08", api.ErrForm}, {"a text too long", bytes(api.MaxText + 1), api.ErrLong}, {"a text below", bytes(-1), api.ErrForm},
		{"no roll", bytes("", 0, 0, 0), api.ErrForm}, {"no roll, and short", bytes(""), api.ErrForm}, {"a short roll", bytes(r[:len(r)-1], 0, 0, 0), api.ErrForm}, {"a long roll", bytes(r+"\x00", 0, 0, 0), api.ErrForm}, {"no roll, and a bad number", bytes("?") + "\x08", api.ErrForm},
		{"a roll that is short of bytes", r, api.ErrForm}, {"a roll that is short", bytes(r)[:9], api.ErrShort},
		// counts
		{"short of drafts", of(), api.ErrShort}, {"drafts below", of(-1), api.ErrForm}, {"drafts above", of(65537), api.ErrForm}, {"as many drafts as may be counted, short", of(65536), api.ErrShort}, {"drafts far above", of(api.MaxNumber), api.ErrForm}, {"a count in a longer form", of() + "\x01\x00", api.ErrForm},
		{"short of classes", of(0), api.ErrShort}, {"classes below", of(0, -1), api.ErrForm}, {"classes above", of(0, 65537), api.ErrForm}, {"as many classes as may be counted, short", of(0, 65536), api.ErrShort},
		{"short of marks", of(0, 0), api.ErrShort}, {"marks below", of(0, 0, -1), api.ErrForm}, {"marks above", of(0, 0, 65537), api.ErrForm}, {"as many marks as may be counted, short", of(0, 0, 65536), api.ErrShort},
		{"yes for a count", of(0, 0, "x"), api.ErrForm},
		// drafts
		{"a draft", of(1, "ann", a, 0, 0, 0, 0), api.OK}, {"a draft to go back to", of(1, "ann", "", []string{a}, 0, 0, 0), api.OK}, {"a draft to go on to", of(1, "ann", "", 0, []string{a, ""}, 0, 0), api.OK}, {"no text, but one to go back to", of(1, "ann", "", []string{""}, 0, 0, 0), api.OK},
		{"a zero draft", of(1, "ann", "", 0, 0, 0, 0), api.ErrForm}, {"a stranger's", of(1, "who", a, 0, 0, 0, 0), api.ErrForm}, {"nobody's", of(1, "", a, 0, 0, 0, 0), api.ErrForm}, {"a class's", of(1, "art", a, 0, 0, 0, 0), api.ErrForm},
		{"two drafts", of(2, "Tim", a, 0, 0, "ann", a, 0, 0, 0, 0), api.OK}, {"two drafts the wrong way", of(2, "ann", a, 0, 0, "Tim", a, 0, 0, 0, 0), api.ErrForm}, {"two drafts of one", of(2, "ann", a, 0, 0, "ann", a, 0, 0, 0, 0), api.ErrForm},
		{"one draft of two", of(2, "ann", a, 0, 0), api.ErrShort}, {"one draft of two, then a count", of(2, "ann", a, 0, 0, 0), api.ErrShort},
		{"no form", of(1, "ann", "a:;", 0, 0, 0, 0), api.ErrForm}, {"no grammar", of(1, "ann", "a", 0, 0, 0, 0), api.ErrForm}, {"not sound", of(1, "ann", "a: b;\n", 0, 0, 0, 0), api.ErrForm}, {"no form behind", of(1, "ann", a, []string{a, "a:;"}, 0, 0, 0), api.ErrForm}, {"no form ahead", of(1, "ann", a, 0, []string{"a:;", a}, 0, 0), api.ErrForm},
		{"texts as many as may be", of(1, "ann", a, numbered(api.MaxUndo), numbered(api.MaxUndo), 0, 0), api.OK}, {"too many back", of(1, "ann", a, numbered(api.MaxUndo+1), 0, 0, 0), api.ErrForm}, {"too many on", of(1, "ann", a, 0, numbered(api.MaxUndo+1), 0, 0), api.ErrForm},
		{"far too many back, short", of(1, "ann", a, api.MaxText), api.ErrShort}, {"more back than may be counted", of(1, "ann", a, api.MaxText+1), api.ErrLong}, {"more on than may be counted", of(1, "ann", a, 0, api.MaxText+1), api.ErrLong}, {"back below", of(1, "ann", a, -1), api.ErrForm},
		{"a text of a draft too long", of(1, "ann", api.MaxText+1), api.ErrLong}, {"a text to go back to too long", of(1, "ann", a, 1, api.MaxText+1), api.ErrLong},
		// what is looked at when its draft has been read
		{"a stranger's, short", of(1, "who", a, 0), api.ErrShort}, {"no form, short", of(1, "ann", "?", 0), api.ErrShort}, {"no form, then too long", of(1, "ann", "?", 0, api.MaxText+1), api.ErrLong}, {"too many back, then too long", of(1, "ann", a, numbered(api.MaxUndo+1), api.MaxText+1), api.ErrLong},
		{"a stranger's, then a bad count", of(1, "who", a, 0, 0, -1), api.ErrForm}, {"a stranger's, then short", of(1, "who", a, 0, 0), api.ErrForm}, {"no form, then another draft too long", of(2, "ann", "?", 0, 0, api.MaxText+1), api.ErrForm},
		// classes
		{"a class", of(0, 1, "maths", tasks(2), 0), api.OK}, {"a class of no tasks", of(0, 1, "maths", 0, 0), api.ErrForm}, {"no class", of(0, 1, "none", tasks(1), 0), api.ErrForm}, {"a member for a class", of(0, 1, "ann", tasks(1), 0), api.ErrForm},
		{"two classes", of(0, 2, "art", tasks(2), "maths", tasks(3), 0), api.OK}, {"two classes the wrong way", of(0, 2, "maths", tasks(2), "art", tasks(3), 0), api.ErrForm}, {"a class twice", of(0, 2, "art", tasks(2), "art", tasks(2), 0), api.ErrForm},
		{"tasks as many as may be", of(0, 1, "maths", tasks(api.MaxTasks), 0), api.OK}, {"one task too many", of(0, 1, "maths", tasks(api.MaxTasks+1), 0), api.ErrForm}, {"a task twice", of(0, 1, "maths", slices.Concat(tasks(3), tasks(1)), 0), api.ErrForm},
		{"no task", of(0, 1, "maths", []string{""}, 0), api.ErrForm}, {"a long task", of(0, 1, "maths", []string{tasks(1)[0] + "\x00"}, 0), api.ErrForm}, {"a short task", of(0, 1, "maths", []string{tasks(1)[0][1:]}, 0), api.ErrForm}, {"a task and none", of(0, 1, "maths", append(tasks(1), "?"), 0), api.ErrForm},
		{"no class, short", of(0, 1, "none", 2, "?"), api.ErrShort}, {"no class, then too long", of(0, 1, "none", 1, api.MaxText+1), api.ErrLong}, {"more tasks than may be counted", of(0, 1, "maths", api.MaxText+1), api.ErrLong}, {"tasks below", of(0, 1, "maths", -1), api.ErrForm}, {"no class, then short", of(0, 1, "none", tasks(1)), api.ErrForm}, {"no task, then short", of(0, 1, "maths", []string{"?"}), api.ErrForm},
		// marks
		{"a mark", marked(1, "maths", "two", "ann", mark), api.OK}, {"an infinite one", marked(1, "maths", "two", "ann", marks.Put(math.Inf(-1))), api.OK}, {"one above a hundred", marked(1, "maths", "two", "ann", marks.Put(101)), api.OK},
		{"no mark", marked(1, "maths", "two", "ann", marks.Put(math.NaN())), api.ErrForm}, {"another NaN", marked(1, "maths", "two", "ann", "\x7f\xf8\x00\x00\x00\x00\x00\x00"), api.ErrForm}, {"a mark -0", marked(1, "maths", "two", "ann", "\x80\x00\x00\x00\x00\x00\x00\x00"), api.ErrForm}, {"a short mark", marked(1, "maths", "two", "ann", mark[:7]), api.ErrForm}, {"a long mark", marked(1, "maths", "two", "ann", mark+"\x00"), api.ErrForm},
		{"a mark of no class", marked(1, "none", "two", "ann", mark), api.ErrForm}, {"of another class", marked(1, "art", "two", "ann", mark), api.ErrForm}, {"of no task", marked(1, "maths", "none", "ann", mark), api.ErrForm}, {"of a stranger", marked(1, "maths", "two", "who", mark), api.ErrForm}, {"of another's student", marked(1, "maths", "two", "cy", mark), api.ErrForm}, {"of the teacher", marked(1, "maths", "two", "tea", mark), api.ErrForm},
		{"four marks", marked(4, "maths", "clear", "ann", mark, "maths", "clear", "bob", mark, "maths", "two", "ann", mark, "maths", "two", "bob", mark), api.OK},
		{"students the wrong way", marked(2, "maths", "two", "bob", mark, "maths", "two", "ann", mark), api.ErrForm}, {"tasks the wrong way", marked(2, "maths", "two", "ann", mark, "maths", "clear", "bob", mark), api.ErrForm}, {"a mark twice", marked(2, "maths", "two", "ann", mark, "maths", "two", "ann", mark), api.ErrForm},
		{"classes the wrong way", of(0, 2, "art", tasks(1), "maths", tasks(1), 2, "maths", "t0", "ann", mark, "art", "t0", "ann", mark), api.ErrForm}, {"classes", of(0, 2, "art", tasks(1), "maths", tasks(1), 2, "art", "t0", "cy", mark, "maths", "t0", "ann", mark), api.OK},
		{"a mark of no class, short", marked(1, "none", "two", "ann"), api.ErrShort}, {"a mark of no class, then too long", marked(1, "none", "two", "ann", api.MaxText+1), api.ErrLong}, {"no mark, then another too long", marked(2, "maths", "two", "ann", "", api.MaxText+1), api.ErrForm},
		// behind all
		{"a byte left", of(0, 0, 0, 0), api.ErrTail}, {"a byte left behind marks", marked(1, "maths", "two", "ann", mark, 0), api.ErrTail}, {"many bytes left", of(0, 0, 0, long), api.ErrForm},
		{"a stranger's draft, and a byte left", of(1, "who", a, 0, 0, 0, 0, 0), api.ErrForm},
	} {
		got, err := school.Restore(x.s)
		if err != x.want || (got == nil) != (err != api.OK) {
			t.Errorf("%s: %d, not %d", x.what, err, x.want)
		}
		if got != nil && got.Snapshot() != x.s {
			t.Errorf("%s: %x, not %x", x.what, got.Snapshot(), x.s)
		}
	}
}

// TestRestoreShort: wherever the bytes end too early.
func TestRestoreShort(t *testing.T) {
	s := done(t)
	must(t, s, of(command.Undo, "bob"))
	b := s.Snapshot()
	for k := range b {
		if got, err := school.Restore(b[:k]); err != api.ErrShort || got != nil {
			t.Error(k, err)
		}
	}
	if _, err := school.Restore(b + "\x00"); err != api.ErrTail {
		t.Error(err)
	}
}

// TestRestoreLong: of more than MaxState bytes, which are looked at behind all but what is left.
func TestRestoreLong(t *testing.T) {
	r := roll(t)
	state := func(size int, behind ...any) string { // four texts to go back to, of which the last one makes up the size
		texts := []string{sized(t, 8010), sized(t, 8010), sized(t, 8010), ""}
		all := func() string { return bytes(append([]any{r, 1, "ann", "", texts, 0, 0, 0}, behind...)...) }
		texts[3] = sized(t, size-len(all())-2) // two more, as the length of a text from 256 bytes on takes three
		return all()
	}
	fit, long := state(api.MaxState), state(api.MaxState+1)
	if len(fit) != api.MaxState || len(long) != api.MaxState+1 {
		t.Fatal(len(fit), len(long))
	}
	s, err := school.Restore(fit)
	if err != api.OK || s.Snapshot() != fit {
		t.Fatal(err)
	}
	for what, x := range map[string]struct {
		b    string
		want api.Errno
	}{
		"as long as may be, and one left": {state(api.MaxState-1, 0), api.ErrTail}, "too long by what is left": {fit + "\x00", api.ErrForm}, "too long": {long, api.ErrForm}, "too long, and one left": {long + "\x00", api.ErrForm},
		"too long, and short": {long[:len(long)-1], api.ErrShort}, "too long, and a count too great": {long[:len(long)-1] + bytes(65536), api.ErrShort}, "too long, and a text too long": {long[:len(long)-1] + bytes(1, api.MaxText+1), api.ErrLong},
	} {
		if got, err := school.Restore(x.b); err != x.want || got != nil {
			t.Errorf("%s: %d, not %d", what, err, x.want)
		}
	}
}

// TestGoesOn: what is restored, or a copy, answers the same from then on.
func TestGoesOn(t *testing.T) {
	s := done(t)
	must(t, s, of(command.Edit, "ann", body("b: ;")), of(command.Undo, "ann"))
	again, err := school.Restore(s.Snapshot())
	if err != api.OK {
		t.Fatal(err)
	}
	c := s.Copy()
	if c == nil || c == s {
		t.Fatal("no copy")
	}
	for _, x := range []command.Command{
		of(command.Redo, "ann"), of(command.Undo, "ann"), of(command.Undo, "ann"), of(command.Undo, "ann"), of(command.Redo, "ann"), of(command.Marks, "tea", "maths"), of(command.Marks, "bob", "maths"), of(command.Edit, "bob", body("a: ;")),
		of(command.Submit, "bob", "maths", "two"), of(command.Marks, "bob", "maths"), of(command.Assign, "tea", "maths", put(two("two"))), of(command.Assign, "tea", "maths", put(two("three"))), of(command.Join, "tea", "maths", "cy"),
		of(command.Leave, "ann", "ann"), of(command.Marks, "Tim", "art"), of(command.Marks, "tea", "maths"), of(command.Close, "tea", "maths"), of(command.Undo, "tea"),
	} {
		one, two, three := s.Apply(x), again.Apply(x), c.Apply(x)
		if told(one) != told(two) || told(one) != told(three) || s.Snapshot() != again.Snapshot() || s.Snapshot() != c.Snapshot() {
			t.Error(x, told(one), told(two), told(three))
		}
	}
}

// TestCopy: whatever is done to one leaves the other as it was.
func TestCopy(t *testing.T) {
	var nobody *school.School
	if nobody.Copy() != nil {
		t.Error("a copy of none")
	}
	for _, x := range []command.Command{
		of(command.Enrol, "tea", "dan", 1), of(command.Grant, "tea", "ann", 5), of(command.Open, "tea", "new"), of(command.Join, "tea", "zoo", "cy"), of(command.Part, "ann", "maths", "ann"), of(command.Leave, "bob", "bob"), of(command.Close, "tea", "maths"),
		of(command.Assign, "tea", "maths", put(two("new"))), of(command.Assign, "tea", "zoo", put(two("new"))), of(command.Edit, "ann", body("b: ;")), of(command.Undo, "ann"), of(command.Submit, "ann", "maths", "clear"), of(command.Submit, "bob", "art", "two"),
	} {
		s := done(t)
		c := s.Copy()
		was := s.Snapshot()
		if c.Snapshot() != was {
			t.Fatal("isn't the same")
		}
		r := c.Apply(x)
		if s.Snapshot() != was {
			t.Error(x, "of the copy changed it")
		}
		changed := c.Snapshot()
		if (r.Code == api.OK) != (changed != was) {
			t.Error(x, told(r))
		}
		if again := s.Apply(x); told(again) != told(r) || c.Snapshot() != changed {
			t.Error(x, told(again), told(r))
		}
	}
}

// TestFull: a draft that is restored with as many texts on both sides as may be stays one that may be restored.
func TestFull(t *testing.T) {
	s, err := school.Restore(bytes(roll(t), 1, "ann", "a: ;\n", numbered(api.MaxUndo), numbered(api.MaxUndo), 0, 0))
	if err != api.OK {
		t.Fatal(err)
	}
	for k := api.MaxUndo - 1; k >= 0; k-- {
		expect(t, s, of(command.Undo, "ann"), told(command.Reply{Text: numbered(k + 1)[k], Count: k}))
		if again, err := school.Restore(s.Snapshot()); err != api.OK || again.Snapshot() != s.Snapshot() {
			t.Fatal(k, err)
		}
	}
	expect(t, s, of(command.Undo, "ann"), code(api.ErrState))
	for k := 1; k < api.MaxUndo; k++ {
		expect(t, s, of(command.Redo, "ann"), told(command.Reply{Text: numbered(k + 1)[k], Count: k}))
	}
	expect(t, s, of(command.Redo, "ann"), told(command.Reply{Text: "a: ;\n", Count: api.MaxUndo}))
	expect(t, s, of(command.Redo, "ann"), code(api.ErrState))
}

// TestKept: what is handed in isn't kept, nor is what is answered.
func TestKept(t *testing.T) {
	s := done(t)
	was := s.Snapshot()
	for _, c := range []command.Command{of(command.Marks, "tea", "maths"), of(command.Marks, "ann", "maths"), of(command.List, "ann"), of(command.Words, "ann", 4), of(command.Parse, "ann", []string{"x", "y"}), of(command.Submit, "bob", "maths", "two")} {
		want := told(s.Apply(c))
		r := s.Apply(c)
		for k := range r.Texts[:cap(r.Texts)] {
			r.Texts[:cap(r.Texts)][k] = "?"
		}
		for k := range r.Marks[:cap(r.Marks)] {
			r.Marks[:cap(r.Marks)][k] = -1
		}
		if got := told(s.Apply(c)); got != want || s.Snapshot() != was {
			t.Error(c, got, want)
		}
	}
	word := append(make([]string, 0, 4), "x", "?")
	s.Apply(of(command.Parse, "ann", word))
	if !slices.Equal(word[:4], []string{"x", "?", "", ""}) {
		t.Error(word)
	}
}
