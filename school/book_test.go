package school_test

import (
	"maps"
	"math"
	"slices"
	"strings"

	"primer/api"
	"primer/command"
	"primer/cyk"
	"primer/draft"
	"primer/earley"
	"primer/lang"
	"primer/least"
	"primer/lex"
	"primer/marks"
	"primer/octets"
	"primer/plain"
	"primer/source"
	"primer/task"
)

// A book keeps what a school does, all of a thing below it: drafts below people, tasks below classes, marks below tasks.
type book struct {
	people  map[string]person
	lessons map[string]lesson
}

type person struct {
	role, quota int
	draft       draft.Draft
}

type lesson struct {
	teacher  string
	students []string
	chores   []chore
}

type chore struct {
	task task.Task
	best map[string]float64
}

func newBook() *book {
	return &book{map[string]person{}, map[string]lesson{}}
}

func (b *book) copied() *book {
	c := &book{maps.Clone(b.people), map[string]lesson{}}
	for name, x := range b.lessons {
		x.students = slices.Clone(x.students)
		x.chores = slices.Clone(x.chores)
		for k := range x.chores {
			x.chores[k].best = maps.Clone(x.chores[k].best)
		}
		c.lessons[name] = x
	}
	return c
}

// apply a command: the reply, and the book as it is then.
func (b *book) apply(c command.Command) (command.Reply, *book) {
	if !command.Good(c) {
		return command.Reply{Code: api.ErrArg}, b
	}
	if len(command.Put(c)) > api.MaxCommand {
		return command.Reply{Code: api.ErrLong}, b
	}
	next := b.copied()
	r := next.answer(c)
	if r.Code != api.OK {
		return command.Reply{Code: r.Code, Line: r.Line, Col: r.Col}, b
	}
	reply := command.PutReply(r)
	if err := first(reply == "" || len(reply) > api.MaxCommand, api.ErrLong, len(next.bytes()) > api.MaxState, api.ErrQuota); err != api.OK {
		return command.Reply{Code: err}, b
	}
	return r, next
}

// first error of some that go with whether they hold.
func first(errs ...any) api.Errno {
	for k := 0; k < len(errs); k += 2 {
		if errs[k].(bool) {
			return errs[k+1].(api.Errno)
		}
	}
	return api.OK
}

func (b *book) answer(c command.Command) command.Reply {
	_, is := b.people[c.Who]
	switch {
	case c.Kind == command.Enrol:
		return command.Reply{Code: b.enrol(c)}
	case !is:
		return command.Reply{Code: api.ErrNone}
	case c.Kind <= command.Open:
		return command.Reply{Code: b.office(c)}
	case c.Kind <= command.Assign:
		return command.Reply{Code: b.class(c)}
	case c.Kind <= command.Redo:
		return b.draft(c)
	case c.Kind <= command.List:
		return b.look(c)
	case c.Kind <= command.Words:
		return b.read(c)
	case c.Kind == command.Submit:
		return b.submit(c)
	}
	return b.marks(c)
}

func (b *book) enrol(c command.Command) api.Errno {
	me, is := b.people[c.Who]
	_, there := b.people[c.Name]
	empty, role := len(b.people) == 0, c.Nums[0]
	err := first(empty && (c.Name != c.Who || role != 2), api.ErrRole, !empty && !is, api.ErrNone, !empty && me.role != 2, api.ErrRole,
		c.Name == "", api.ErrName, role != 1 && role != 2, api.ErrKind, there, api.ErrExists, len(b.people) == api.MaxMembers, api.ErrQuota)
	if err == api.OK {
		b.people[c.Name] = person{role: role, quota: 4096}
	}
	return err
}

func (b *book) office(c command.Command) api.Errno {
	me := b.people[c.Who]
	other, there := b.people[c.Name]
	_, taken := b.lessons[c.Name]
	var err api.Errno
	switch c.Kind {
	case command.Leave:
		busy := false
		for _, x := range b.lessons {
			busy = busy || x.teacher == c.Name
		}
		if err = first(me.role != 2 && c.Name != c.Who, api.ErrRole, !there, api.ErrNone, busy, api.ErrState); err == api.OK {
			delete(b.people, c.Name)
			for class := range b.lessons {
				b.part(class, c.Name)
			}
		}
	case command.Grant:
		if err = first(me.role != 2, api.ErrRole, !there, api.ErrNone, c.Nums[0] < 0 || c.Nums[0] > 65536, api.ErrArg); err == api.OK {
			other.quota = c.Nums[0]
			b.people[c.Name] = other
		}
	case command.Open:
		if err = first(me.role != 2, api.ErrRole, c.Name == "", api.ErrName, taken, api.ErrExists, len(b.lessons) == api.MaxClasses, api.ErrQuota); err == api.OK {
			b.lessons[c.Name] = lesson{teacher: c.Who}
		}
	}
	return err
}

func (b *book) part(class, student string) {
	x := b.lessons[class]
	x.students = slices.DeleteFunc(x.students, func(s string) bool { return s == student })
	b.lessons[class] = x
	for _, y := range x.chores {
		delete(y.best, student)
	}
}

func (b *book) class(c command.Command) api.Errno {
	x, there := b.lessons[c.Name]
	other, known := b.people[c.Other]
	in := slices.Contains(x.students, c.Other)
	foreign := first(!there, api.ErrNone, x.teacher != c.Who && (c.Kind != command.Part || c.Other != c.Who), api.ErrRole)
	if foreign != api.OK {
		return foreign
	}
	var err api.Errno
	switch c.Kind {
	case command.Close:
		delete(b.lessons, c.Name)
	case command.Join:
		if err = first(!known, api.ErrNone, other.role == 2, api.ErrRole, in, api.ErrExists); err == api.OK {
			x.students = slices.Sorted(slices.Values(append(x.students, c.Other)))
			b.lessons[c.Name] = x
		}
	case command.Part:
		b.part(c.Name, c.Other)
		err = first(!in, api.ErrNone)
	case command.Assign:
		t, wrong := task.Get(c.Text)
		same := slices.ContainsFunc(x.chores, func(y chore) bool { return y.task.Name == t.Name })
		if err = first(wrong != api.OK, wrong, same, api.ErrExists, len(x.chores) == api.MaxTasks, api.ErrQuota); err == api.OK {
			x.chores = append(x.chores, chore{t, map[string]float64{}})
			b.lessons[c.Name] = x
		}
	}
	return err
}

func (b *book) draft(c command.Command) command.Reply {
	me := b.people[c.Who]
	var d draft.Draft
	var a draft.Answer
	switch c.Kind {
	case command.Edit:
		d, a = me.draft.Set(c.Text, me.quota)
	case command.Change:
		d, a = me.draft.Change(draft.Change{Kind: c.Nums[0], Name: c.Name, New: c.Other, Row: c.Nums[1], From: c.Nums[2], N: c.Nums[3]}, me.quota)
	case command.Undo:
		d, a.Code = me.draft.Undo()
	case command.Redo:
		d, a.Code = me.draft.Redo()
	}
	if a.Code != api.OK {
		return command.Reply{Code: a.Code, Line: a.Line, Col: a.Col}
	}
	me.draft = d
	b.people[c.Who] = me
	return command.Reply{Text: d.Text, Count: len(d.Back)}
}

func (b *book) look(c command.Command) command.Reply {
	name := c.Name
	if name == "" {
		name = c.Who
	}
	other, there := b.people[name]
	taught := name == c.Who
	for _, x := range b.lessons {
		taught = taught || x.teacher == c.Who && slices.Contains(x.students, name)
	}
	text := other.draft.Text
	if err := first(!there, api.ErrNone, !taught, api.ErrRole, c.Kind == command.List && text == "", api.ErrState); err != api.OK {
		return command.Reply{Code: err}
	}
	if c.Kind == command.Show {
		return command.Reply{Text: text, Count: len(other.draft.Back)}
	}
	return command.Reply{Texts: listed(text)}
}

// listed: the texts of the drafts here have a rule a line, all names of one length, and no bracket nor | in a literal.
func listed(text string) []string {
	var l []string
	for line := range strings.Lines(text) {
		if line[0] == '%' {
			continue
		}
		row, deep := "", 0
		for _, c := range strings.TrimSuffix(line, ";\n") {
			deep += strings.Count("([{", string(c)) - strings.Count(")]}", string(c))
			if c == '|' && deep == 0 {
				l = append(l, row)
				row = strings.Repeat(" ", strings.Index(line, ":")) + "| "
				continue
			}
			row += string(c)
		}
		l = append(l, row)
	}
	return l
}

func (b *book) read(c command.Command) command.Reply {
	made, answer := draft.Accept(b.people[c.Who].draft.Text, api.MaxText)
	if answer.Code != api.OK {
		return command.Reply{Code: api.ErrState} // of the empty text
	}
	p := made.Plain
	if c.Kind == command.Words {
		words, err := lang.Words(p, c.Nums[0])
		r := command.Reply{Code: err, Count: len(words)}
		for _, word := range words {
			line := ""
			for _, terminal := range word {
				line += " " + lex.Quote(p.Terms[terminal])
			}
			r.Texts = append(r.Texts, strings.TrimPrefix(line, " "))
		}
		return r
	}
	var word []int
	for _, text := range c.Word {
		terminal := slices.Index(p.Terms, text)
		if terminal < 0 {
			break
		}
		word = append(word, terminal)
	}
	if len(word) == len(c.Word) && lang.Derives(p, word) {
		t, err := least.Tree(p, word)
		n, _ := source.Of(p, t)
		return command.Reply{Code: err, Count: cyk.Make(made.Normal, word).Trees(), Text: source.Text(n)}
	}
	var r command.Reply
	for n := range len(word) + 1 { // each beginning by itself
		if chart := earley.Make(p, word[:n]); chart.Good() == n {
			r.Col, r.Texts = n, nil
			for _, terminal := range chart.Next(n) {
				r.Texts = append(r.Texts, p.Terms[terminal])
			}
		}
	}
	return r
}

func (b *book) submit(c command.Command) command.Reply {
	x, there := b.lessons[c.Name]
	at := slices.IndexFunc(x.chores, func(y chore) bool { return y.task.Name == c.Other })
	made, answer := draft.Accept(b.people[c.Who].draft.Text, api.MaxText)
	if err := first(!there, api.ErrNone, !slices.Contains(x.students, c.Who), api.ErrRole, at < 0, api.ErrNone, answer.Code != api.OK, api.ErrState); err != api.OK {
		return command.Reply{Code: err}
	}
	y := x.chores[at]
	right := 0
	for k, texts := range slices.Concat(y.task.Yes, y.task.No) {
		word, ok := plain.Word(made.Plain, texts)
		ok = ok && lang.Derives(made.Plain, word)
		if k >= len(y.task.Yes) {
			ok = !ok
		} else if y.task.Clear {
			ok = ok && cyk.Make(made.Normal, word).Trees() == 1
		}
		if ok {
			right++
		}
	}
	all := len(y.task.Yes) + len(y.task.No)
	mark := marks.Share(right, all)
	if had, ok := y.best[c.Who]; !ok || mark > had {
		y.best[c.Who] = mark
	}
	return command.Reply{Line: all, Count: right, Marks: []float64{mark}}
}

func (b *book) marks(c command.Command) command.Reply {
	x, there := b.lessons[c.Name]
	if err := first(!there, api.ErrNone, x.teacher != c.Who && !slices.Contains(x.students, c.Who), api.ErrRole); err != api.OK {
		return command.Reply{Code: err}
	}
	if x.teacher != c.Who {
		var r command.Reply
		for _, y := range x.chores {
			mark, ok := y.best[c.Who]
			if !ok {
				mark = math.NaN()
			}
			r.Texts, r.Marks = append(r.Texts, y.task.Name), append(r.Marks, mark)
		}
		return r
	}
	r := command.Reply{Texts: x.students}
	for _, student := range x.students {
		sum, weight := 0.0, 0.0
		for _, y := range x.chores {
			if mark, ok := y.best[student]; ok {
				sum += mark * y.task.Weight
				weight += y.task.Weight
			}
		}
		r.Marks = append(r.Marks, sum/weight)
	}
	return r
}

// bytes of the school.
func (b *book) bytes() string {
	var roll, drafts, classes, marked octets.Out
	count, full, all := 0, 0, 0
	roll.Int(len(b.people))
	for _, name := range slices.Sorted(maps.Keys(b.people)) {
		x := b.people[name]
		roll.Text(name)
		roll.Int(x.role)
		roll.Int(x.quota)
		if x.draft.Text == "" && len(x.draft.Back)+len(x.draft.Fore) == 0 {
			continue
		}
		count++
		drafts.Text(name)
		drafts.Text(x.draft.Text)
		drafts.Texts(x.draft.Back)
		drafts.Texts(x.draft.Fore)
	}
	roll.Int(len(b.lessons))
	for _, name := range slices.Sorted(maps.Keys(b.lessons)) {
		x := b.lessons[name]
		roll.Text(name)
		roll.Text(x.teacher)
		roll.Texts(x.students)
		var texts []string
		for _, y := range x.chores {
			texts = append(texts, task.Put(y.task))
		}
		if len(texts) > 0 {
			full++
			classes.Text(name)
			classes.Texts(texts)
		}
		rising := slices.SortedFunc(slices.Values(x.chores), func(y, z chore) int { return strings.Compare(y.task.Name, z.task.Name) })
		for _, y := range rising {
			for _, student := range slices.Sorted(maps.Keys(y.best)) {
				all++
				for _, text := range []string{name, y.task.Name, student, marks.Put(y.best[student])} {
					marked.Text(text)
				}
			}
		}
	}
	text := func(o *octets.Out) string { s, _ := o.Bytes(); return s }
	return bytes(text(&roll), count) + text(&drafts) + bytes(full) + text(&classes) + bytes(all) + text(&marked)
}
