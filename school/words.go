package school

import (
	"math"
	"slices"
	"strings"

	"primer/api"
	"primer/command"
	"primer/cyk"
	"primer/earley"
	"primer/lang"
	"primer/least"
	"primer/lex"
	"primer/marks"
	"primer/plain"
	"primer/source"
	"primer/task"
)

// parse a word by one's own draft.
func (s *School) parse(c command.Command) command.Reply {
	made, err := s.made(c.Who)
	if err != api.OK {
		return refused(err)
	}
	word := known(made.Plain, c.Word)
	if len(word) == len(c.Word) {
		if chart := cyk.Make(made.Normal, word); chart.Yes() {
			return derived(made.Plain, word, chart.Trees())
		}
	}
	return expected(made.Plain, word)
}

// known: the terminals of texts, up to the first one that is none.
func known(p plain.Grammar, texts []string) []int {
	strange := func(text string) bool { return !slices.Contains(p.Terms, text) }
	if at := slices.IndexFunc(texts, strange); at >= 0 {
		texts = texts[:at]
	}
	word, _ := plain.Word(p, texts)
	return word
}

// derived: in how many ways, and the least of these trees.
func derived(p plain.Grammar, word []int, trees int) command.Reply {
	t, err := least.Tree(p, word)
	if err != api.OK {
		return refused(err)
	}
	n, err := source.Of(p, t)
	if err != api.OK {
		return refused(err)
	}
	return command.Reply{Count: trees, Text: source.Text(n)}
}

// expected: how far a word goes, and what might have come there.
func expected(p plain.Grammar, word []int) command.Reply {
	chart := earley.Make(p, word)
	good := max(0, chart.Good())
	return command.Reply{Col: good, Texts: plain.Texts(p, chart.Next(good))}
}

// words of one's own draft.
func (s *School) words(c command.Command) command.Reply {
	made, err := s.made(c.Who)
	if err != api.OK {
		return refused(err)
	}
	l, err := lang.Words(made.Plain, c.Nums[0])
	if err != api.OK {
		return refused(err)
	}
	r := command.Reply{Count: len(l)}
	for _, word := range l {
		r.Texts = append(r.Texts, quoted(plain.Texts(made.Plain, word)))
	}
	return r
}

func quoted(texts []string) string {
	var l []string
	for _, text := range texts {
		l = append(l, lex.Quote(text))
	}
	return strings.Join(l, " ")
}

// submit one's own draft for a task.
func (s *School) submit(c command.Command) command.Reply {
	class, ok := s.roll.Class(c.Name)
	if !ok {
		return refused(api.ErrNone)
	}
	if !slices.Contains(class.Students, c.Who) {
		return refused(api.ErrRole)
	}
	t, ok := s.task(c.Name, c.Other)
	if !ok {
		return refused(api.ErrNone)
	}
	made, err := s.made(c.Who)
	if err != api.OK {
		return refused(err)
	}
	report, err := task.Grade(made, t)
	if err != api.OK {
		return refused(err)
	}
	s.mark(place{c.Name, c.Other, c.Who}, report.Mark)
	return command.Reply{Count: report.Right, Line: report.All, Marks: []float64{report.Mark}}
}

// mark, where there is none, or a lesser one.
func (s *School) mark(p place, mark float64) {
	had, ok := s.marks[p]
	if !ok || marks.Compare(had, mark) < 0 {
		s.marks[p] = mark
	}
}

// tell a class's marks: its teacher everyone's, a student their own.
func (s *School) tell(c command.Command) command.Reply {
	class, ok := s.roll.Class(c.Name)
	if !ok {
		return refused(api.ErrNone)
	}
	if class.Teacher == c.Who {
		return s.totals(class.Name, class.Students)
	}
	if !slices.Contains(class.Students, c.Who) {
		return refused(api.ErrRole)
	}
	r := command.Reply{Marks: s.marksOf(c.Name, c.Who)}
	for _, t := range s.tasks[c.Name] {
		r.Texts = append(r.Texts, t.Name)
	}
	return r
}

func (s *School) totals(class string, students []string) command.Reply {
	r := command.Reply{Texts: students}
	for _, student := range students {
		total, err := task.Total(s.tasks[class], s.marksOf(class, student))
		if err != api.OK {
			return refused(err)
		}
		r.Marks = append(r.Marks, total)
	}
	return r
}

// marksOf a student, of a class's tasks in order.
func (s *School) marksOf(class, student string) []float64 {
	var l []float64
	for _, t := range s.tasks[class] {
		mark, ok := s.marks[place{class, t.Name, student}]
		if !ok {
			mark = marks.Canon(math.NaN())
		}
		l = append(l, mark)
	}
	return l
}
