package school

import (
	"maps"
	"math"
	"slices"

	"primer/api"
	"primer/draft"
	"primer/marks"
	"primer/octets"
	"primer/roll"
	"primer/task"
)

const mostCount = 1 << 16 // of drafts, classes or marks that are read

// Snapshot: a school's bytes.
func (s *School) Snapshot() string {
	if s == nil {
		return ""
	}
	var o octets.Out
	o.Text(roll.Put(s.roll))
	s.putDrafts(&o)
	s.putTasks(&o)
	s.putMarks(&o)
	b, _ := o.Bytes()
	return b
}

func (s *School) putDrafts(o *octets.Out) {
	o.Int(len(s.drafts))
	for _, name := range slices.Sorted(maps.Keys(s.drafts)) {
		d := s.drafts[name]
		o.Text(name)
		o.Text(d.Text)
		o.Texts(d.Back)
		o.Texts(d.Fore)
	}
}

func (s *School) putTasks(o *octets.Out) {
	o.Int(len(s.tasks))
	for _, class := range slices.Sorted(maps.Keys(s.tasks)) {
		var texts []string
		for _, t := range s.tasks[class] {
			texts = append(texts, task.Put(t))
		}
		o.Text(class)
		o.Texts(texts)
	}
}

func (s *School) putMarks(o *octets.Out) {
	o.Int(len(s.marks))
	for _, p := range slices.SortedFunc(maps.Keys(s.marks), place.compare) {
		o.Text(p.class)
		o.Text(p.task)
		o.Text(p.student)
		o.Text(marks.Put(s.marks[p]))
	}
}

// Restore the school of bytes.
func Restore(b string) (*School, api.Errno) {
	return read(b)
}

// A reader makes a school of bytes.
type reader struct {
	*octets.In
	made *School
}

// read catches what is thrown where the bytes are no school's; whatever else is thrown is a mistake of this package, and goes on.
func read(b string) (s *School, err api.Errno) {
	defer func() {
		thrown := recover()
		if thrown == nil {
			return
		}
		wrong, ok := thrown.(api.Errno)
		if !ok {
			panic(thrown)
		}
		s, err = nil, wrong
	}()
	r := reader{octets.Open(b), New()}
	r.roll()
	r.drafts()
	r.tasks()
	r.marks()
	such(len(b) <= api.MaxState)
	must(r.End())
	return r.made, api.OK
}

func must(err api.Errno) {
	if err != api.OK {
		panic(err)
	}
}

// such: has to hold of what was read, for it to be a school's.
func such(ok bool) {
	if !ok {
		panic(api.ErrForm)
	}
}

func (r reader) roll() {
	text := r.Text()
	must(r.Err())
	made, err := roll.Get(text)
	such(err == api.OK)
	r.made.roll = made
}

func (r reader) count() int {
	n := r.Int()
	must(r.Err())
	such(0 <= n && n <= mostCount)
	return n
}

func (r reader) drafts() {
	last := ""
	for range r.count() {
		name := r.Text()
		d := draft.Draft{Text: r.Text(), Back: r.Texts(api.MaxText), Fore: r.Texts(api.MaxText)}
		must(r.Err())
		_, ok := r.made.roll.Member(name)
		such(ok && name > last)
		such(d.Text != "" || len(d.Back) > 0 || len(d.Fore) > 0)
		such(draft.Right(d))
		r.made.drafts[name] = d
		last = name
	}
}

func (r reader) tasks() {
	last := ""
	for range r.count() {
		class, texts := r.Text(), r.Texts(api.MaxText)
		must(r.Err())
		_, ok := r.made.roll.Class(class)
		such(ok && class > last)
		such(len(texts) > 0)
		for _, text := range texts {
			such(r.made.assign(class, text) == api.OK)
		}
		last = class
	}
}

func (r reader) marks() {
	var last place
	for range r.count() {
		p := place{r.Text(), r.Text(), r.Text()}
		text := r.Text()
		must(r.Err())
		such(r.made.may(p) && p.compare(last) > 0)
		mark, err := marks.Get(text)
		such(err == api.OK && !math.IsNaN(mark))
		r.made.marks[p] = mark
		last = p
	}
}

// may there be a mark at that place?
func (s *School) may(p place) bool {
	class, _ := s.roll.Class(p.class)
	_, ok := s.task(p.class, p.task)
	return ok && slices.Contains(class.Students, p.student)
}
