package school

import (
	"cmp"

	"primer/api"
	"primer/command"
	"primer/draft"
	"primer/format"
)

// edit one's own draft.
func (s *School) edit(c command.Command, quota int) command.Reply {
	d, answer := edited(s.drafts[c.Who], c, quota)
	if answer.Code != api.OK {
		return command.Reply{Code: answer.Code, Line: answer.Line, Col: answer.Col}
	}
	s.drafts[c.Who] = d
	return shown(d)
}

func edited(d draft.Draft, c command.Command, quota int) (draft.Draft, draft.Answer) {
	switch c.Kind {
	case command.Edit:
		return d.Set(c.Text, quota)
	case command.Change:
		change := draft.Change{Kind: c.Nums[0], Name: c.Name, New: c.Other, Row: c.Nums[1], From: c.Nums[2], N: c.Nums[3]}
		return d.Change(change, quota)
	case command.Undo:
		d, err := d.Undo()
		return bounded(d), draft.Answer{Code: err}
	}
	d, err := d.Redo()
	return d, draft.Answer{Code: err}
}

// bounded: a draft that was restored with as many texts on both sides as may be would have one more to go on to than may be, and couldn't be restored again: the oldest one goes, as it does of those to go back to.
func bounded(d draft.Draft) draft.Draft {
	d.Fore = d.Fore[max(0, len(d.Fore)-api.MaxUndo):]
	return d
}

// look at a draft.
func (s *School) look(c command.Command) command.Reply {
	name := cmp.Or(c.Name, c.Who)
	if _, ok := s.roll.Member(name); !ok {
		return refused(api.ErrNone)
	}
	if name != c.Who && !s.roll.Teaches(c.Who, name) {
		return refused(api.ErrRole)
	}
	if c.Kind == command.Show {
		return shown(s.drafts[name])
	}
	return s.list(name)
}

func shown(d draft.Draft) command.Reply {
	return command.Reply{Text: d.Text, Count: len(d.Back)}
}

func (s *School) list(name string) command.Reply {
	made, err := s.made(name)
	if err != api.OK {
		return refused(err)
	}
	lines, err := format.Listing(made.Source)
	if err != api.OK {
		return refused(err)
	}
	return command.Reply{Texts: lines}
}

// made: all forms of a member's draft. A text that is kept was accepted, and so is again.
func (s *School) made(name string) (draft.Made, api.Errno) {
	text := s.drafts[name].Text
	if text == "" {
		return draft.Made{}, api.ErrState
	}
	made, answer := draft.Accept(text, api.MaxText)
	return made, answer.Code
}
