package lex_test

import (
	"slices"
	"strings"
	"testing"

	"primer/api"
	"primer/lex"
)

var (
	name32 = "a" + strings.Repeat("b", api.MaxName-1)
	name33 = name32 + "c"
)

func TestKinds(t *testing.T) {
	if kinds := [4]int{lex.Name, lex.Literal, lex.Sign, lex.End}; kinds != [4]int{1, 2, 3, 4} {
		t.Error(kinds)
	}
}

func TestGood(t *testing.T) {
	for _, s := range []string{"a", "z", "A", "Z", "m", "aZ09_-", "a-", "A_", "x--__", name32} {
		if !lex.Good(s) {
			t.Errorf("%q is no good name", s)
		}
	}
	for _, s := range []string{
		"", "0", "9a", "_", "_a", "-", "-a", " a", "a ", "a b", "a\n", "a.1", "a'", "a#", "%a", "a:", "a\x00", "\x00",
		"\xc3\xa4", "a\xc3\xa4", "a\x80", "@", "[", "`", "{", "a@", "a[", "a`", "a{", "a/", name33, strings.Repeat("a", api.MaxText+1),
	} {
		if lex.Good(s) {
			t.Errorf("%q is a good name", s)
		}
	}
}

func scan(t *testing.T, s string, want ...lex.Token) {
	t.Helper()
	got, fault := lex.Scan(s)
	if !slices.Equal(got, want) || fault != (lex.Fault{}) {
		t.Errorf("%.60q:\n%v %v, not\n%v", s, got, fault, want)
	}
}

func fault(t *testing.T, s string, line, col int, code api.Errno) {
	t.Helper()
	got, f := lex.Scan(s)
	if want := (lex.Fault{Line: line, Col: col, Code: code}); len(got) != 0 || f != want {
		t.Errorf("%.60q: %d tokens, %v, not %v", s, len(got), f, want)
	}
}

func TestScan(t *testing.T) {
	scan(t, "", lex.Token{lex.End, "", 1, 1})
	scan(t, "a-1:'x'",
		lex.Token{lex.Name, "a-1", 1, 1}, lex.Token{lex.Sign, ":", 1, 4}, lex.Token{lex.Literal, "x", 1, 5}, lex.Token{lex.End, "", 1, 8})
	scan(t, "a: 'b' # a note: 'c\n\t| \"d\" ;\r\n",
		lex.Token{lex.Name, "a", 1, 1}, lex.Token{lex.Sign, ":", 1, 2}, lex.Token{lex.Literal, "b", 1, 4},
		lex.Token{lex.Sign, "|", 2, 2}, lex.Token{lex.Literal, "d", 2, 4}, lex.Token{lex.Sign, ";", 2, 8}, lex.Token{lex.End, "", 3, 1})
	scan(t, "a_-0Z'x'b\"y\"c",
		lex.Token{lex.Name, "a_-0Z", 1, 1}, lex.Token{lex.Literal, "x", 1, 6}, lex.Token{lex.Name, "b", 1, 9},
		lex.Token{lex.Literal, "y", 1, 10}, lex.Token{lex.Name, "c", 1, 13}, lex.Token{lex.End, "", 1, 14})
	scan(t, "'a''b'", lex.Token{lex.Literal, "a", 1, 1}, lex.Token{lex.Literal, "b", 1, 4}, lex.Token{lex.End, "", 1, 7})
}

func TestSigns(t *testing.T) {
	all := ":|;()[]{}*+?%"
	var want []lex.Token
	for k := range len(all) {
		want = append(want, lex.Token{lex.Sign, all[k : k+1], 1, 1 + k})
	}
	scan(t, all, append(want, lex.Token{lex.End, "", 1, 1 + len(all)})...)
}

func TestBlanksAndComments(t *testing.T) {
	scan(t, " ", lex.Token{lex.End, "", 1, 2})
	scan(t, "\n", lex.Token{lex.End, "", 2, 1})
	scan(t, "\r", lex.Token{lex.End, "", 1, 2})
	scan(t, " \t\r\n\n \t", lex.Token{lex.End, "", 3, 3})
	scan(t, "#", lex.Token{lex.End, "", 1, 2})
	scan(t, "# \x00\xff'\\ #", lex.Token{lex.End, "", 1, 9})
	scan(t, "#\n", lex.Token{lex.End, "", 2, 1})
	scan(t, "#\r;\n;", lex.Token{lex.Sign, ";", 2, 1}, lex.Token{lex.End, "", 2, 2})
	scan(t, "a#b\n#c\n#\nd", lex.Token{lex.Name, "a", 1, 1}, lex.Token{lex.Name, "d", 4, 1}, lex.Token{lex.End, "", 4, 2})
	scan(t, "'#'#'", lex.Token{lex.Literal, "#", 1, 1}, lex.Token{lex.End, "", 1, 6})
	scan(t, "a b\tc\rd", lex.Token{lex.Name, "a", 1, 1}, lex.Token{lex.Name, "b", 1, 3}, lex.Token{lex.Name, "c", 1, 5},
		lex.Token{lex.Name, "d", 1, 7}, lex.Token{lex.End, "", 1, 8})
}

func TestBytesThatNothingBeginsWith(t *testing.T) {
	begin := "abcdefghijklmnopqrstuvwxyzABCDEFGHIJKLMNOPQRSTUVWXYZ:|;()[]{}*+?% \t\n\r#"
	for b := range 256 {
		s := string([]byte{byte(b)})
		if strings.Contains(begin, s) {
			if _, f := lex.Scan(s); f.Code != api.OK {
				t.Errorf("%q: %v", s, f)
			}
			continue
		}
		col := 1
		if s == "'" || s == `"` { // a literal that ends too early
			col = 2
		}
		fault(t, s, 1, col, api.ErrForm)
		fault(t, "a\n :"+s, 2, 2+col, api.ErrForm)
	}
	fault(t, "a 1a", 1, 3, api.ErrForm)
	fault(t, "_a", 1, 1, api.ErrForm)
	fault(t, "a \xc3\xa4", 1, 3, api.ErrForm)
}

func TestEscapes(t *testing.T) {
	for s, want := range map[string]string{
		`'\\'`:           `\`,
		`'\''`:           `'`,
		`'\"'`:           `"`,
		`"\'"`:           `'`,
		`"\""`:           `"`,
		`'"'`:            `"`,
		`"'"`:            `'`,
		`'\n'`:           "\n",
		`'\t'`:           "\t",
		`'\x00'`:         "\x00",
		`'\x0a'`:         "\n",
		`'\xa0'`:         "\xa0",
		`'\x9f\xf9\xff'`: "\x9f\xf9\xff",
		`'\x41B\x'43'`:   "",
		`'\x5c'`:         `\`,
		`'\\n'`:          `\n`,
		`'\\\\'`:         `\\`,
		`'\\x41'`:        `\x41`,
		`' ~!}'`:         ` ~!}`,
	} {
		if want == "" {
			fault(t, s, 1, 9, api.ErrForm)
			continue
		}
		scan(t, s, lex.Token{lex.Literal, want, 1, 1}, lex.Token{lex.End, "", 1, 1 + len(s)})
	}
}

// Each byte as it is in a literal, and behind an escape's first byte.
func TestBytesOfLiterals(t *testing.T) {
	for b := range 256 {
		x := string([]byte{byte(b)})
		for _, between := range []string{"'", `"`} {
			whole := between + "a" + x + "b" + between
			switch {
			case x == between || x == `\`:
			case b >= 0x20 && b <= 0x7E:
				scan(t, whole, lex.Token{lex.Literal, "a" + x + "b", 1, 1}, lex.Token{lex.End, "", 1, 6})
			default:
				fault(t, whole, 1, 3, api.ErrForm)
			}
			escaped := between + `a\` + x + "b" + between
			if strings.Contains(`\'"nt`, x) {
				as := map[string]string{"n": "\n", "t": "\t"}[x]
				if as == "" {
					as = x
				}
				scan(t, escaped, lex.Token{lex.Literal, "a" + as + "b", 1, 1}, lex.Token{lex.End, "", 1, 7})
			} else if x != "x" {
				fault(t, escaped, 1, 4, api.ErrForm)
			}
		}
		for col, s := range map[int]string{5: `'a\x` + x + `0'`, 6: `'a\x0` + x + `'`} {
			if strings.Contains("0123456789abcdef", x) {
				if _, f := lex.Scan(s); f.Code != api.OK {
					t.Errorf("%q: %v", s, f)
				}
				continue
			}
			fault(t, s, 1, col, api.ErrForm)
		}
	}
}

func TestLiteralsThatEndTooEarly(t *testing.T) {
	for _, s := range []string{"'", `"`, "'a", "'a#b", `'a"`, `"a'`, `'a\`, `'a\'`, `"a\"`, `'a\x`, `'a\x4`, `'a\x41`, `'a\\`, `'a\n`} {
		fault(t, s, 1, 1+len(s), api.ErrForm)
		fault(t, "a\n"+s, 2, 1+len(s), api.ErrForm)
		fault(t, s+"\n'", 1, 1+len(s), api.ErrForm)
	}
}

func TestHowLong(t *testing.T) {
	scan(t, name32, lex.Token{lex.Name, name32, 1, 1}, lex.Token{lex.End, "", 1, 33})
	fault(t, name33, 1, 1, api.ErrLong)
	fault(t, "a: b\n "+name33+"1:", 2, 2, api.ErrLong)
	l16 := strings.Repeat("x", api.MaxLiteral)
	scan(t, "'"+l16+"'", lex.Token{lex.Literal, l16, 1, 1}, lex.Token{lex.End, "", 1, 19})
	scan(t, `"`+strings.Repeat(`\x78`, api.MaxLiteral)+`"`, lex.Token{lex.Literal, l16, 1, 1}, lex.Token{lex.End, "", 1, 67})
	fault(t, " '"+l16+"y'", 1, 2, api.ErrLong)
	fault(t, "\n '"+l16+`\n"`+"'", 2, 2, api.ErrLong)
	fault(t, " ''", 1, 2, api.ErrForm)
	fault(t, ` ""`, 1, 2, api.ErrForm)
}

// The first fault by place, but a literal's bytes ahead of how many they are.
func TestFirstFault(t *testing.T) {
	l16 := strings.Repeat("x", api.MaxLiteral)
	fault(t, "'"+l16+"yy", 1, 20, api.ErrForm)
	fault(t, "'"+l16+"yy\n'", 1, 20, api.ErrForm)
	fault(t, "'"+l16+`y\q'`, 1, 20, api.ErrForm)
	fault(t, "'"+l16+"y' !", 1, 1, api.ErrLong)
	fault(t, "! '"+l16+"y'", 1, 1, api.ErrForm)
	fault(t, "'' "+name33, 1, 1, api.ErrForm)
	fault(t, name33+"''", 1, 1, api.ErrLong)
	fault(t, "''\x00", 1, 1, api.ErrForm)
	fault(t, "a '\x00' ''", 1, 4, api.ErrForm)
}

func TestLongTexts(t *testing.T) {
	longest := strings.Repeat(" ", api.MaxText-1) + ";"
	scan(t, longest, lex.Token{lex.Sign, ";", 1, api.MaxText}, lex.Token{lex.End, "", 1, api.MaxText + 1})
	fault(t, longest+" ", 0, 0, api.ErrLong)
	fault(t, "!"+longest, 0, 0, api.ErrLong)
	fault(t, strings.Repeat("!", 2*api.MaxText), 0, 0, api.ErrLong)
	fault(t, "'"+longest[1:], 1, api.MaxText+1, api.ErrForm)
	fault(t, strings.Repeat("a", api.MaxText), 1, 1, api.ErrLong)
	tokens, f := lex.Scan(strings.Repeat(";\n", api.MaxText/2))
	if len(tokens) != api.MaxText/2+1 || f != (lex.Fault{}) {
		t.Fatal(len(tokens), f)
	}
	if last := tokens[len(tokens)-1]; last != (lex.Token{lex.End, "", api.MaxText/2 + 1, 1}) {
		t.Error(last)
	}
}

func TestQuote(t *testing.T) {
	for s, want := range map[string]string{
		"":                  `''`,
		"x":                 `'x'`,
		"a b#|":             `'a b#|'`,
		`"`:                 `'"'`,
		`'`:                 `"'"`,
		`'"`:                `'\'"'`,
		`"'`:                `'"\''`,
		`'"'`:               `"'\"'"`,
		`"'"`:               `'"\'"'`,
		`\`:                 `'\\'`,
		`\'`:                `"\\'"`,
		"\n\t":              `'\n\t'`,
		"\r\x00\x1f":        `'\x0d\x00\x1f'`,
		" ~\x7f":            `' ~\x7f'`,
		"\x80\xab\xff":      `'\x80\xab\xff'`,
		"\xc3\xa4":          `'\xc3\xa4'`,
		"'\n\xff\"'\\n":     `"'\n\xff\"'\\n"`,
		"more than sixteen": `'more than sixteen'`,
	} {
		if got := lex.Quote(s); got != want {
			t.Errorf("%q: %s, not %s", s, got, want)
		}
	}
	long := strings.Repeat("x'", api.MaxText)
	if got := lex.Quote(long); got != `"`+long+`"` {
		t.Errorf("%.20s, %d bytes", got, len(got))
	}
}

func TestScanOfQuote(t *testing.T) {
	check := func(s string) {
		q := lex.Quote(s)
		scan(t, q, lex.Token{lex.Literal, s, 1, 1}, lex.Token{lex.End, "", 1, 1 + len(q)})
	}
	for a := range 256 {
		check(strings.Repeat(string([]byte{byte(a)}), api.MaxLiteral))
		for b := range 256 {
			check(string([]byte{byte(a)}) + "'" + string([]byte{byte(b)}))
		}
	}
}
