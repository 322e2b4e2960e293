package lex

import (
	"strings"

	"primer/api"
)

// A scanner has what is left of a text, and the place of its first byte.
type scanner struct {
	rest      string
	line, col int
}

// token takes the next token, with the blanks and comments ahead of it.
func (c *scanner) token() (Token, Fault) {
	c.skip()
	t := Token{Kind: End, Line: c.line, Col: c.col}
	if c.rest == "" {
		return t, Fault{}
	}
	code := api.ErrForm
	switch first := c.rest[0]; {
	case letter(first):
		t.Kind = Name
		t.Text = c.take(nameSize(c.rest))
		code = measure(t.Text, api.MaxName)
	case among(first, quotes):
		var ok bool
		t.Kind = Literal
		t.Text, ok = c.literal()
		if !ok {
			return Token{}, Fault{c.line, c.col, api.ErrForm}
		}
		code = measure(t.Text, api.MaxLiteral)
	case among(first, signs):
		t.Kind = Sign
		t.Text = c.take(1)
		code = api.OK
	}
	if code != api.OK {
		return Token{}, Fault{t.Line, t.Col, code}
	}
	return t, Fault{}
}

// measure tells what is wrong with how many bytes a token has.
func measure(text string, most int) api.Errno {
	if text == "" {
		return api.ErrForm
	}
	if len(text) > most {
		return api.ErrLong
	}
	return api.OK
}

// skip takes blanks and comments.
func (c *scanner) skip() {
	comment := false
	for c.rest != "" {
		b := c.rest[0]
		comment = (comment || b == '#') && b != '\n'
		if !comment && !among(b, blanks) {
			return
		}
		c.take(1)
		if b == '\n' {
			c.line++
			c.col = 1
		}
	}
}

// literal takes a literal, and answers its bytes; false, where the byte that it came to, or the end, can't go on it.
func (c *scanner) literal() (string, bool) {
	between := c.take(1)[0]
	var text []byte
	for c.rest != "" && plain(c.rest[0]) {
		b := c.take(1)[0]
		if b == between {
			return string(text), true
		}
		if b == turn {
			var ok bool
			if b, ok = c.escape(); !ok {
				return "", false
			}
		}
		text = append(text, b)
	}
	return "", false
}

// escape takes what stands behind the byte that it begins with.
func (c *scanner) escape() (byte, bool) {
	if c.rest == "" {
		return 0, false
	}
	b := c.rest[0]
	switch b {
	case turn, '\'', '"':
	case 'n':
		b = '\n'
	case 't':
		b = '\t'
	case 'x':
		c.take(1)
		return c.pair()
	default:
		return 0, false
	}
	c.take(1)
	return b, true
}

// pair takes the two digits of a byte.
func (c *scanner) pair() (byte, bool) {
	high, ok := c.digit()
	if !ok {
		return 0, false
	}
	low, ok := c.digit()
	return high<<4 | low, ok
}

func (c *scanner) digit() (byte, bool) {
	if c.rest == "" || !among(c.rest[0], digits) {
		return 0, false
	}
	return byte(strings.Index(digits, c.take(1))), true
}

// take goes on by so many bytes, none of them the end of a line but in skip.
func (c *scanner) take(n int) string {
	s := c.rest[:n]
	c.rest = c.rest[n:]
	c.col += n
	return s
}
