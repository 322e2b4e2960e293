package lex_test

import (
	"math/rand/v2"
	"regexp"
	"slices"
	"strings"
	"testing"

	"primer/api"
	"primer/lex"
)

// What a text may begin with, told by patterns.
var (
	skipped = regexp.MustCompile(`^(?:[ \t\n\r]|#[^\n]*)*`)
	named   = regexp.MustCompile(`^[a-zA-Z][a-zA-Z0-9_-]*`)
	signed  = regexp.MustCompile(`^[][:|;(){}*+?%]`)
	single  = regexp.MustCompile(`^'((?:[ -&(-[\]-~]|\\[\\'"nt]|\\x[0-9a-f]{2})*)'`)
	double  = regexp.MustCompile(`^"((?:[ !#-[\]-~]|\\[\\'"nt]|\\x[0-9a-f]{2})*)"`)
	opened  = regexp.MustCompile(`^(?:'(?:[ -&(-[\]-~]|\\[\\'"nt]|\\x[0-9a-f]{2})*|"(?:[ !#-[\]-~]|\\[\\'"nt]|\\x[0-9a-f]{2})*)(?:\\(?:x[0-9a-f]?)?)?`)
	escaped = regexp.MustCompile(`\\(?:x..|.)`)
)

func unescape(s string) string {
	return escaped.ReplaceAllStringFunc(s, func(e string) string {
		switch e[1] {
		case 'n':
			return "\n"
		case 't':
			return "\t"
		case 'x':
			return string([]byte{byte(strings.Index("0123456789abcdef", e[2:3])<<4 | strings.Index("0123456789abcdef", e[3:]))})
		}
		return e[1:]
	})
}

func place(s string, at int) (int, int) {
	return 1 + strings.Count(s[:at], "\n"), at - strings.LastIndex(s[:at], "\n")
}

// slowScan is Scan by the patterns.
func slowScan(s string) ([]lex.Token, lex.Fault) {
	var tokens []lex.Token
	at := 0
	wrong := func(at int, code api.Errno) ([]lex.Token, lex.Fault) {
		line, col := place(s, at)
		return nil, lex.Fault{Line: line, Col: col, Code: code}
	}
	for {
		at += len(skipped.FindString(s[at:]))
		line, col := place(s, at)
		rest := s[at:]
		t := lex.Token{Kind: lex.End, Line: line, Col: col}
		if rest == "" {
			return append(tokens, t), lex.Fault{}
		}
		size := 0
		if m := named.FindString(rest); m != "" {
			t.Kind, t.Text, size = lex.Name, m, len(m)
			if size > api.MaxName {
				return wrong(at, api.ErrLong)
			}
		} else if m := signed.FindString(rest); m != "" {
			t.Kind, t.Text, size = lex.Sign, m, 1
		} else if rest[0] == '\'' || rest[0] == '"' {
			m := single.FindStringSubmatch(rest)
			if m == nil {
				m = double.FindStringSubmatch(rest)
			}
			if m == nil {
				return wrong(at+len(opened.FindString(rest)), api.ErrForm)
			}
			t.Kind, t.Text, size = lex.Literal, unescape(m[1]), len(m[0])
			if t.Text == "" {
				return wrong(at, api.ErrForm)
			}
			if len(t.Text) > api.MaxLiteral {
				return wrong(at, api.ErrLong)
			}
		} else {
			return wrong(at, api.ErrForm)
		}
		tokens = append(tokens, t)
		at += size
	}
}

func compare(t *testing.T, s string) {
	t.Helper()
	got, gotFault := lex.Scan(s)
	want, wantFault := slowScan(s)
	if !slices.Equal(got, want) || gotFault != wantFault {
		t.Fatalf("%q:\n%v %v, not\n%v %v", s, got, gotFault, want, wantFault)
	}
}

func TestAllShortTexts(t *testing.T) {
	bytes := "'\"\\xn4ag#\n ;-!"
	var each func(s string, more int)
	each = func(s string, more int) {
		compare(t, s)
		for k := range len(bytes) {
			if more > 0 {
				each(s+bytes[k:k+1], more-1)
			}
		}
	}
	each("", 4)
}

func TestManyTexts(t *testing.T) {
	r := rand.New(rand.NewPCG(1, 2))
	pieces := []string{
		"a", "b-1", "Z_", ":", "|", ";", "(", ")", "[", "]", "{", "}", "*", "+", "?", "%", " ", "\n", "\t", "\r", "# x'\n", "#",
		"'x'", `"y"`, `'\n'`, `"\x41"`, `'\''`, `'it'`, name32, "'0123456789abcde'", "'0123456789abcdef'", "'a\\x00\\\\'",
	}
	spoil := []string{"'", `"`, "\\", "\x00", "\xff", "!", "1", "''", "'\n'", "'\\", "'\\x", "'\\x4", name33, "'0123456789abcdefg'"}
	for range 20000 {
		var b strings.Builder
		for range r.IntN(30) {
			b.WriteString(pieces[r.IntN(len(pieces))])
			if r.IntN(40) == 0 {
				b.WriteString(spoil[r.IntN(len(spoil))])
			}
		}
		compare(t, b.String())
	}
}
