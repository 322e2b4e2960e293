package command_test

import (
	"encoding/hex"
	"fmt"
	"math"
	"slices"
	"strings"
	"testing"

	"primer/api"
	"primer/command"
	"primer/marks"
	"primer/octets"
)

// full: a command that has something everywhere.
func full() command.Command {
	return command.Command{Kind: command.Change, Who: "ann", Name: "b", Other: "c-1", Text: "any \xff", Word: []string{"x", "", "yy"}, Nums: [4]int{1, -2, 300, 0}}
}

// told: a command as a text, and the same text for the same commands alone.
func told(c command.Command) string {
	return fmt.Sprintf("%d %q %q %q %q %q %v", c.Kind, c.Who, c.Name, c.Other, c.Text, slices.Concat(c.Word), c.Nums)
}

var nothing = told(command.Command{})

func TestKinds(t *testing.T) {
	kinds := []int{command.Enrol, command.Leave, command.Grant, command.Open, command.Close, command.Join, command.Part, command.Assign, command.Edit,
		command.Change, command.Undo, command.Redo, command.Show, command.List, command.Parse, command.Words, command.Submit, command.Marks}
	for k, kind := range kinds {
		if kind != k+1 {
			t.Error(k+1, kind)
		}
		if !command.Good(command.Command{Kind: kind, Who: "a"}) {
			t.Error(kind, "isn't good")
		}
	}
}

// A candidate for a good command.
type candidate struct {
	what string
	c    command.Command
	want bool
}

func candidates() []candidate {
	var l []candidate
	add := func(what string, want bool, spoil func(c *command.Command)) {
		c := full()
		spoil(&c)
		l = append(l, candidate{what, c, want})
	}
	long := strings.Repeat("n", api.MaxName)
	add("full", true, func(c *command.Command) {})
	for kind, want := range map[int]bool{0: false, 1: true, 18: true, 19: false, -1: false, math.MaxInt: false, math.MinInt: false} {
		add(fmt.Sprint("kind ", kind), want, func(c *command.Command) { c.Kind = kind })
	}
	for name, want := range map[string]bool{"": false, "9": false, "a b": false, "a_9-": true, long: true, long + "n": false, "\xff": false} {
		add("who "+name, want, func(c *command.Command) { c.Who = name })
		add("name "+name, want || name == "", func(c *command.Command) { c.Name = name })
		add("other "+name, want || name == "", func(c *command.Command) { c.Other = name })
	}
	add("no text", true, func(c *command.Command) { c.Text = "" })
	add("a text as long as may be", true, func(c *command.Command) { c.Text = strings.Repeat("\x00", api.MaxText) })
	add("a text too long", false, func(c *command.Command) { c.Text = strings.Repeat("x", api.MaxText+1) })
	add("no word", true, func(c *command.Command) { c.Word = nil })
	add("an empty word", true, func(c *command.Command) { c.Word = []string{} })
	add("a word as long as may be", true, func(c *command.Command) { c.Word = slices.Repeat([]string{"x"}, api.MaxWord) })
	add("a word too long", false, func(c *command.Command) { c.Word = make([]string, api.MaxWord+1) })
	add("a text of a word as long as may be", true, func(c *command.Command) { c.Word[2] = strings.Repeat("x", api.MaxLiteral) })
	add("a text of a word too long", false, func(c *command.Command) { c.Word[2] = strings.Repeat("x", api.MaxLiteral+1) })
	for k := range 4 {
		for n, want := range map[int]bool{api.MaxNumber: true, -api.MaxNumber: true, api.MaxNumber + 1: false, -api.MaxNumber - 1: false, math.MaxInt: false, math.MinInt: false} {
			add(fmt.Sprint("number ", k, " ", n), want, func(c *command.Command) { c.Nums[k] = n })
		}
	}
	add("nothing", false, func(c *command.Command) { *c = command.Command{} })
	return l
}

func TestGood(t *testing.T) {
	for _, x := range candidates() {
		if got := command.Good(x.c); got != x.want {
			t.Error(x.what, got)
		}
	}
}

func TestPut(t *testing.T) {
	for _, x := range []struct {
		c    command.Command
		want string
	}{
		{command.Command{Kind: command.Undo, Who: "a"}, "010b 010161 00 00 00 00 00000000"}, // the chapter's own
		{full(), "010a 0103616e6e 010162 0103632d31 0105616e7920ff 0103 010178 00 01027979 0101 8102 02012c 00"},
		{command.Command{Kind: 19, Who: "a"}, ""},
		{command.Command{}, ""},
	} {
		want, err := hex.DecodeString(strings.ReplaceAll(x.want, " ", ""))
		if err != nil {
			t.Fatal(err)
		}
		if got := command.Put(x.c); got != string(want) {
			t.Errorf("%s: %x, not %x", told(x.c), got, want)
		}
	}
}

func TestGetOfPut(t *testing.T) {
	for _, x := range candidates() {
		s := command.Put(x.c)
		if !x.want {
			if s != "" {
				t.Errorf("%s: %d bytes", x.what, len(s))
			}
			continue
		}
		got, err := command.Get(s)
		if err != api.OK || told(got) != told(x.c) || s == "" {
			t.Error(x.what, told(got), err)
		}
		if got, err := command.Get(s + "\x00"); err != api.ErrTail || told(got) != nothing {
			t.Error(x.what, "and a byte:", told(got), err)
		}
	}
}

// bytes of numbers, texts and lists of texts, one behind the other.
func bytes(things ...any) string {
	var o octets.Out
	for _, x := range things {
		switch x := x.(type) {
		case int:
			o.Int(x)
		case string:
			o.Text(x)
		case []string:
			o.Texts(x)
		}
	}
	s, ok := o.Bytes()
	if !ok {
		panic("no bytes")
	}
	return s
}

func TestGet(t *testing.T) {
	word := []string{"x"}
	for _, x := range []struct {
		what string
		s    string
		want api.Errno
	}{
		{"all", bytes(1, "a", "b", "c", "d", word, 1, 2, 3, 4), api.OK},
		{"nothing", "", api.ErrShort},
		{"a bad number", "\x08", api.ErrForm},
		{"kind 0", bytes(0, "a", "", "", "", []string{}, 0, 0, 0, 0), api.ErrForm},
		{"kind 19", bytes(19, "a", "", "", "", []string{}, 0, 0, 0, 0), api.ErrForm},
		{"a kind below", bytes(-1, "a", "", "", "", []string{}, 0, 0, 0, 0), api.ErrForm},
		{"kind 19, then short", bytes(19, "a", "", "", "", []string{}, 0, 0, 0), api.ErrShort},
		{"kind 19, then a text too long", bytes(19, "a", "", "", api.MaxText+1), api.ErrLong},
		{"nobody", bytes(1, "", "", "", "", []string{}, 0, 0, 0, 0), api.ErrForm},
		{"a bad name", bytes(1, "a", "9", "", "", []string{}, 0, 0, 0, 0), api.ErrForm},
		{"another bad name", bytes(1, "a", "", "a.b", "", []string{}, 0, 0, 0, 0), api.ErrForm},
		{"a name's length below", bytes(1, -1), api.ErrForm},
		{"a name's length above", bytes(1, api.MaxText+1), api.ErrLong},
		{"a text's length above", bytes(1, "a", "b", "c", api.MaxText+1), api.ErrLong},
		{"a text as long as may be", bytes(1, "a", "", "", strings.Repeat("x", api.MaxText), []string{}, 0, 0, 0, 0), api.OK},
		{"a word as long as may be", bytes(1, "a", "", "", "", make([]string, api.MaxWord), 0, 0, 0, 0), api.OK},
		{"a word too long", bytes(1, "a", "", "", "", make([]string, api.MaxWord+1), 0, 0, 0, 0), api.ErrLong},
		{"a word too long, of nobody", bytes(1, "", "", "", "", api.MaxWord+1), api.ErrLong},
		{"a word below", bytes(1, "a", "", "", "", -1), api.ErrForm},
		{"a word that is short", bytes(1, "a", "", "", "", api.MaxWord), api.ErrShort},
		{"a text of a word too long", bytes(1, "a", "", "", "", []string{strings.Repeat("x", api.MaxLiteral+1)}, 0, 0, 0, 0), api.ErrForm},
		{"a text of a word as long as may be", bytes(1, "a", "", "", "", []string{strings.Repeat("x", api.MaxLiteral)}, 0, 0, 0, 0), api.OK},
		{"a text of a word far too long", bytes(1, "a", "", "", "", 1, api.MaxText+1), api.ErrLong},
		{"numbers as great as may be", bytes(1, "a", "", "", "", []string{}, api.MaxNumber, -api.MaxNumber, 0, 0), api.OK},
		{"a number that has a shorter form", bytes(1, "a", "", "", "", []string{}, 0, 0, 0) + "\x01\x00", api.ErrForm},
		{"a number too great", bytes(1, "a", "", "", "", []string{}, 0, 0, 0) + "\x07\x20\x00\x00\x00\x00\x00\x01", api.ErrForm},
		{"a byte left", bytes(1, "a", "", "", "", []string{}, 0, 0, 0, 0, 0), api.ErrTail},
		{"kind 19, and a byte left", bytes(19, "a", "", "", "", []string{}, 0, 0, 0, 0, 0), api.ErrForm},
	} {
		got, err := command.Get(x.s)
		if err != x.want || err != api.OK && told(got) != nothing {
			t.Errorf("%s: %s %d, not %d", x.what, told(got), err, x.want)
		}
		if err == api.OK && (command.Put(got) != x.s || !command.Good(got)) {
			t.Error(x.what, told(got))
		}
	}
	s := command.Put(full())
	for k := range s {
		if got, err := command.Get(s[:k]); err != api.ErrShort || told(got) != nothing {
			t.Error(k, told(got), err)
		}
	}
}

// fullReply has something everywhere.
func fullReply() command.Reply {
	return command.Reply{Code: api.ErrWord, Line: 1, Col: -2, Count: api.MaxCount, Text: "any\x00", Texts: []string{"", "b"}, Marks: []float64{50, math.NaN(), math.Inf(-1)}}
}

// toldReply: a reply as a text, and the same text for the same replies alone.
func toldReply(r command.Reply) string {
	s := fmt.Sprintf("%d %d %d %d %q %q", r.Code, r.Line, r.Col, r.Count, r.Text, slices.Concat(r.Texts))
	for _, f := range r.Marks {
		s += fmt.Sprintf(" %x", marks.Put(f))
	}
	return s
}

var noReply = toldReply(command.Reply{})

func TestPutReply(t *testing.T) {
	mark := "\x01\x08"
	for _, x := range []struct {
		r    command.Reply
		want string
	}{
		{command.Reply{}, bytes(0, 0, 0, 0, "", 0, 0)},
		{fullReply(), bytes(20, 1, -2, api.MaxCount, "any\x00", []string{"", "b"}, 3) + mark + "\x40\x49\x00\x00\x00\x00\x00\x00" + mark + "\x7f\xf8\x00\x00\x00\x00\x00\x01" + mark + "\xff\xf0\x00\x00\x00\x00\x00\x00"},
		{command.Reply{Marks: []float64{math.Copysign(0, -1)}}, bytes(0, 0, 0, 0, "", 0, []string{marks.Put(0)})},
		{command.Reply{Code: -1, Line: api.MaxNumber}, bytes(-1, api.MaxNumber, 0, 0, "", 0, 0)}, // of a code that is none, too
		{command.Reply{Code: 21, Col: -api.MaxNumber}, bytes(21, 0, -api.MaxNumber, 0, "", 0, 0)},
	} {
		if got := command.PutReply(x.r); got != x.want {
			t.Errorf("%s: %x, not %x", toldReply(x.r), got, x.want)
		}
	}
	long := strings.Repeat("x", api.MaxText+1)
	for what, r := range map[string]command.Reply{
		"a code": {Code: api.MaxNumber + 1}, "a line": {Line: api.MaxNumber + 1}, "a column": {Col: math.MinInt}, "a count": {Count: -api.MaxNumber - 1},
		"a text": {Text: long}, "texts": {Texts: []string{"", long}}, "too many texts": {Texts: make([]string, api.MaxWords+1)}, "too many marks": {Marks: make([]float64, api.MaxWords+1)},
		"far too many texts": {Texts: make([]string, api.MaxText+1)}, "far too many marks": {Marks: make([]float64, api.MaxText+1)},
	} {
		if got := command.PutReply(r); got != "" {
			t.Errorf("%s: %d bytes", what, len(got))
		}
	}
	r := command.Reply{Text: long[1:], Texts: slices.Repeat([]string{"x"}, api.MaxWords), Marks: make([]float64, api.MaxWords)}
	got, err := command.GetReply(command.PutReply(r))
	if err != api.OK || !command.Same(got, r) {
		t.Error("as long as may be:", err)
	}
}

func TestGetReply(t *testing.T) {
	for _, x := range []struct {
		what string
		s    string
		want api.Errno
	}{
		{"all", bytes(20, 1, 2, 3, "a", []string{"b", "c"}, []string{marks.Put(1), marks.Put(math.NaN())}), api.OK},
		{"numbers below", bytes(1, -1, -2, -api.MaxNumber, "", 0, 0), api.OK},
		{"nothing", "", api.ErrShort},
		{"a code below", bytes(-1, 0, 0, 0, "", 0, 0), api.ErrForm},
		{"code 21", bytes(21, 0, 0, 0, "", 0, 0), api.ErrForm},
		{"a code as great as may be", bytes(api.MaxNumber, 0, 0, 0, "", 0, 0), api.ErrForm},
		{"code 21, then short", bytes(21, 0, 0, 0, "", 0), api.ErrShort},
		{"code 21, then too many texts", bytes(21, 0, 0, 0, "", api.MaxWords+1), api.ErrLong},
		{"a text too long", bytes(0, 0, 0, 0, api.MaxText+1), api.ErrLong},
		{"texts as many as may be", bytes(0, 0, 0, 0, "", make([]string, api.MaxWords), 0), api.OK},
		{"too many texts", bytes(0, 0, 0, 0, "", make([]string, api.MaxWords+1), 0), api.ErrLong},
		{"texts below", bytes(0, 0, 0, 0, "", -1), api.ErrForm},
		{"texts that are short", bytes(0, 0, 0, 0, "", api.MaxWords), api.ErrShort},
		{"marks as many as may be", bytes(0, 0, 0, 0, "", 0, slices.Repeat([]string{marks.Put(7)}, api.MaxWords)), api.OK},
		{"too many marks", bytes(0, 0, 0, 0, "", 0, slices.Repeat([]string{marks.Put(7)}, api.MaxWords+1)), api.ErrLong},
		{"too many marks that are none", bytes(0, 0, 0, 0, "", 0, make([]string, api.MaxWords+1)), api.ErrLong},
		{"a mark of no bytes", bytes(0, 0, 0, 0, "", 0, []string{""}), api.ErrForm},
		{"a short mark", bytes(0, 0, 0, 0, "", 0, []string{marks.Put(1)[:7]}), api.ErrForm},
		{"a long mark", bytes(0, 0, 0, 0, "", 0, []string{marks.Put(1) + "\x00"}), api.ErrForm},
		{"a mark -0", bytes(0, 0, 0, 0, "", 0, []string{marks.Put(1), "\x80\x00\x00\x00\x00\x00\x00\x00"}), api.ErrForm},
		{"another NaN", bytes(0, 0, 0, 0, "", 0, []string{"\x7f\xf8\x00\x00\x00\x00\x00\x00"}), api.ErrForm},
		{"a mark that is none, then short", bytes(0, 0, 0, 0, "", 0, 2, ""), api.ErrShort},
		{"a byte left", bytes(0, 0, 0, 0, "", 0, 0, 0), api.ErrTail},
		{"code 21, and a byte left", bytes(21, 0, 0, 0, "", 0, 0, 0), api.ErrForm},
		{"a mark that is none, and a byte left", bytes(0, 0, 0, 0, "", 0, []string{""}, 0), api.ErrForm},
	} {
		got, err := command.GetReply(x.s)
		if err != x.want || err != api.OK && toldReply(got) != noReply {
			t.Errorf("%s: %s %d, not %d", x.what, toldReply(got), err, x.want)
		}
		if err == api.OK && command.PutReply(got) != x.s {
			t.Error(x.what, toldReply(got))
		}
	}
	for code := api.OK; code <= api.ErrWord; code++ {
		if got, err := command.GetReply(bytes(int(code), 0, 0, 0, "", 0, 0)); err != api.OK || got.Code != code {
			t.Error(code, got, err)
		}
	}
	s := command.PutReply(fullReply())
	for k := range s {
		if got, err := command.GetReply(s[:k]); err != api.ErrShort || toldReply(got) != noReply {
			t.Error(k, toldReply(got), err)
		}
	}
}

func TestSame(t *testing.T) {
	for what, spoil := range map[string]func(r *command.Reply){
		"code":             func(r *command.Reply) { r.Code = 19 },
		"line":             func(r *command.Reply) { r.Line++ },
		"column":           func(r *command.Reply) { r.Col++ },
		"count":            func(r *command.Reply) { r.Count++ },
		"text":             func(r *command.Reply) { r.Text = "any" },
		"a text":           func(r *command.Reply) { r.Texts[1] = "c" },
		"the texts' order": func(r *command.Reply) { slices.Reverse(r.Texts) },
		"a text less":      func(r *command.Reply) { r.Texts = r.Texts[:1] },
		"a text more":      func(r *command.Reply) { r.Texts = append(r.Texts, "") },
		"no texts":         func(r *command.Reply) { r.Texts = nil },
		"a mark":           func(r *command.Reply) { r.Marks[0] = 51 },
		"no mark":          func(r *command.Reply) { r.Marks[0] = math.NaN() },
		"a mark for none":  func(r *command.Reply) { r.Marks[1] = 0 },
		"the marks' order": func(r *command.Reply) { slices.Reverse(r.Marks) },
		"a mark less":      func(r *command.Reply) { r.Marks = r.Marks[:2] },
		"a mark more":      func(r *command.Reply) { r.Marks = append(r.Marks, 0) },
	} {
		a, b := fullReply(), fullReply()
		spoil(&b)
		if command.Same(a, b) || command.Same(b, a) {
			t.Error(what)
		}
		if !command.Same(b, b) {
			t.Error(what, "isn't itself")
		}
	}
	minus0 := math.Copysign(0, -1)
	other := math.Float64frombits(0xfff0000000000005)
	for _, x := range [][2]command.Reply{
		{fullReply(), fullReply()}, {{}, {}},
		{{Texts: []string{}, Marks: []float64{}}, {}},
		{{Marks: []float64{0, minus0}}, {Marks: []float64{minus0, 0}}},
		{{Marks: []float64{math.NaN()}}, {Marks: []float64{other}}},
		{{Text: strings.Repeat("x", api.MaxText+1)}, {Text: strings.Repeat("x", api.MaxText+1)}}, // of such as have no bytes, too
	} {
		if !command.Same(x[0], x[1]) || !command.Same(x[1], x[0]) {
			t.Error(toldReply(x[0]), toldReply(x[1]))
		}
	}
	if command.Same(command.Reply{Line: math.MaxInt}, command.Reply{Line: math.MinInt}) {
		t.Error("numbers without bytes")
	}
}

// TestKept: what is handed in stays as it is, and answers share nothing.
func TestKept(t *testing.T) {
	c, r := full(), fullReply()
	c.Word = append(make([]string, 0, 5), c.Word...)
	s, u := command.Put(c), command.PutReply(r)
	first, _ := command.Get(s)
	second, _ := command.Get(s)
	clear(first.Word)
	if told(second) != told(full()) || told(c) != told(full()) || c.Word[:5][4] != "" {
		t.Error(told(second), told(c))
	}
	one, _ := command.GetReply(u)
	two, _ := command.GetReply(u)
	clear(one.Texts)
	clear(one.Marks)
	if toldReply(two) != toldReply(fullReply()) || toldReply(r) != toldReply(fullReply()) {
		t.Error(toldReply(two), toldReply(r))
	}
}
