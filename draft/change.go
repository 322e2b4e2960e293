package draft

import (
	"primer/api"
	"primer/format"
	"primer/refactor"
	"primer/syntax"
)

// The kinds of changes.
const (
	Rename = 1 + iota
	Inline
	Extract
	Trim
	Flatten
)

// Change of a grammar.
type Change struct {
	Kind         int
	Name, New    string
	Row, From, N int
}

// Change the grammar.
func (d Draft) Change(c Change, quota int) (Draft, Answer) {
	if d.Text == "" {
		return Draft{}, Answer{Code: api.ErrState}
	}
	text, err := c.of(d.Text)
	if err != api.OK {
		return Draft{}, Answer{Code: err}
	}
	return d.Set(text, quota)
}

// of a grammar's text the text of what comes. One that is no grammar's, as a hand-made draft may have, counts as the zero grammar, which each change refuses.
func (c Change) of(text string) (string, api.Errno) {
	g, _ := syntax.Parse(text)
	made, err := c.made(g)
	if err != api.OK {
		return "", err
	}
	return format.Text(made)
}

func (c Change) made(g syntax.Grammar) (syntax.Grammar, api.Errno) {
	switch c.Kind {
	case Rename:
		return refactor.Rename(g, c.Name, c.New)
	case Inline:
		return refactor.Inline(g, c.Name)
	case Extract:
		return refactor.Extract(g, c.Name, c.Row, c.From, c.N, c.New)
	case Trim:
		return refactor.Trim(g)
	case Flatten:
		return refactor.Flatten(g)
	}
	return syntax.Grammar{}, api.ErrKind
}
