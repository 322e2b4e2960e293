package school

import (
	"slices"

	"primer/api"
	"primer/command"
	"primer/roll"
	"primer/task"
)

// begin a school, by its first member.
func (s *School) begin(c command.Command) api.Errno {
	if c.Name != c.Who || c.Nums[0] != roll.Teacher {
		return api.ErrRole
	}
	return s.keep(s.roll.Enrol(c.Name, c.Nums[0]))
}

// run the school: what changes who is there, which classes there are, and what these have to do. Is it the office that asks?
func (s *School) run(c command.Command, office bool) api.Errno {
	switch c.Kind {
	case command.Enrol, command.Grant, command.Open:
		if !office {
			return api.ErrRole
		}
	case command.Leave:
		if !office && c.Name != c.Who {
			return api.ErrRole
		}
	}
	switch c.Kind {
	case command.Enrol:
		return s.keep(s.roll.Enrol(c.Name, c.Nums[0]))
	case command.Grant:
		return s.keep(s.roll.Grant(c.Name, c.Nums[0]))
	case command.Open:
		return s.keep(s.roll.Open(c.Name, c.Who))
	case command.Leave:
		return s.leave(c.Name)
	}
	return s.teach(c)
}

func (s *School) leave(name string) api.Errno {
	delete(s.drafts, name)
	s.forget(func(p place) bool { return p.student == name })
	return s.keep(s.roll.Leave(name))
}

// teach: what is done to a class.
func (s *School) teach(c command.Command) api.Errno {
	class, ok := s.roll.Class(c.Name)
	if !ok {
		return api.ErrNone
	}
	self := c.Kind == command.Part && c.Other == c.Who
	if class.Teacher != c.Who && !self {
		return api.ErrRole
	}
	switch c.Kind {
	case command.Close:
		delete(s.tasks, c.Name)
		s.forget(func(p place) bool { return p.class == c.Name })
		return s.keep(s.roll.Close(c.Name))
	case command.Join:
		return s.keep(s.roll.Join(c.Name, c.Other))
	case command.Part:
		s.forget(func(p place) bool { return p.class == c.Name && p.student == c.Other })
		return s.keep(s.roll.Part(c.Name, c.Other))
	}
	return s.assign(c.Name, c.Text)
}

func (s *School) assign(class, text string) api.Errno {
	t, err := task.Get(text)
	if err != api.OK {
		return err
	}
	if _, ok := s.task(class, t.Name); ok {
		return api.ErrExists
	}
	l := s.tasks[class]
	if len(l) >= api.MaxTasks {
		return api.ErrQuota
	}
	s.tasks[class] = slices.Concat(l, []task.Task{t})
	return api.OK
}

// task of a class by name.
func (s *School) task(class, name string) (task.Task, bool) {
	l := s.tasks[class]
	at := slices.IndexFunc(l, func(t task.Task) bool { return t.Name == name })
	if at < 0 {
		return task.Task{}, false
	}
	return l[at], true
}

// keep the roll that was made, if one was.
func (s *School) keep(r roll.Roll, err api.Errno) api.Errno {
	if err == api.OK {
		s.roll = r
	}
	return err
}
