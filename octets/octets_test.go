package octets_test

import (
	"math"
	"strings"
	"testing"

	"primer/api"
	"primer/octets"
)

func TestPut(t *testing.T) {
	for _, c := range []struct {
		n    int
		want string
	}{
		{0, "\x00"},
		{1, "\x01\x01"},
		{-1, "\x81\x01"},
		{127, "\x01\x7f"},
		{128, "\x01\x80"},
		{255, "\x01\xff"},
		{-255, "\x81\xff"},
		{256, "\x02\x01\x00"},
		{-256, "\x82\x01\x00"},
		{0x010203, "\x03\x01\x02\x03"},
		{0xffffff, "\x03\xff\xff\xff"},
		{0x1000000, "\x04\x01\x00\x00\x00"},
		{0x7fffffff, "\x04\x7f\xff\xff\xff"},
		{-0x80000000, "\x84\x80\x00\x00\x00"},
		{0x102030405, "\x05\x01\x02\x03\x04\x05"},
		{-0x10203040506, "\x86\x01\x02\x03\x04\x05\x06"},
		{0xffffffffffff, "\x06\xff\xff\xff\xff\xff\xff"},
		{api.MaxNumber - 1, "\x07\x1f\xff\xff\xff\xff\xff\xff"},
		{api.MaxNumber, "\x07\x20\x00\x00\x00\x00\x00\x00"},
		{-api.MaxNumber, "\x87\x20\x00\x00\x00\x00\x00\x00"},
		{api.MaxNumber + 1, ""},
		{-api.MaxNumber - 1, ""},
		{math.MaxInt, ""},
		{math.MinInt, ""},
	} {
		if s := octets.Put(c.n); s != c.want {
			t.Errorf("Put(%d): %x, not %x", c.n, s, c.want)
		}
	}
}

func TestGet(t *testing.T) {
	for _, c := range []struct {
		s    string
		n    int
		size int
		err  api.Errno
	}{
		{"", 0, 0, api.ErrShort},
		{"\x00", 0, 1, api.OK},
		{"\x00\x05", 0, 1, api.OK},
		{"\x01\x05", 5, 2, api.OK},
		{"\x01\x05\xff\xff", 5, 2, api.OK},
		{"\x81\x05", -5, 2, api.OK},
		{"\x02\x01\x00", 256, 3, api.OK},
		{"\x07\x20\x00\x00\x00\x00\x00\x00", api.MaxNumber, 8, api.OK},
		{"\x87\x20\x00\x00\x00\x00\x00\x00", -api.MaxNumber, 8, api.OK},
		// the first byte tells more than seven: ahead of being short
		{"\x08", 0, 0, api.ErrForm},
		{"\x08\x01\x02\x03\x04\x05\x06\x07\x08", 0, 0, api.ErrForm},
		{"\x7f", 0, 0, api.ErrForm},
		{"\x88\x01\x02\x03\x04\x05\x06\x07\x08", 0, 0, api.ErrForm},
		{"\xff", 0, 0, api.ErrForm},
		// below 0, and none
		{"\x80", 0, 0, api.ErrForm},
		{"\x80\x01", 0, 0, api.ErrForm},
		// the end comes ahead of them: ahead of what they are
		{"\x01", 0, 0, api.ErrShort},
		{"\x81", 0, 0, api.ErrShort},
		{"\x02\x00", 0, 0, api.ErrShort},
		{"\x07\xff\xff\xff\xff\xff\xff", 0, 0, api.ErrShort},
		// fewer would do
		{"\x01\x00", 0, 0, api.ErrForm},
		{"\x81\x00", 0, 0, api.ErrForm},
		{"\x02\x00\x05", 0, 0, api.ErrForm},
		{"\x07\x00\x20\x00\x00\x00\x00\x00", 0, 0, api.ErrForm},
		// too great
		{"\x07\x20\x00\x00\x00\x00\x00\x01", 0, 0, api.ErrForm},
		{"\x87\x20\x00\x00\x00\x00\x00\x01", 0, 0, api.ErrForm},
		{"\x07\xff\xff\xff\xff\xff\xff\xff", 0, 0, api.ErrForm},
	} {
		if n, size, err := octets.Get(c.s); n != c.n || size != c.size || err != c.err {
			t.Errorf("Get(%x): %d %d %d, not %d %d %d", c.s, n, size, err, c.n, c.size, c.err)
		}
	}
}

func TestGetOfPut(t *testing.T) {
	for p := range 54 {
		for d := -2; d <= 2; d++ {
			for _, n := range []int{1<<p + d, -(1<<p + d)} {
				s := octets.Put(n)
				if n < -api.MaxNumber || n > api.MaxNumber {
					if s != "" {
						t.Errorf("Put(%d): %x", n, s)
					}
					continue
				}
				if m, size, err := octets.Get(s + "\x00"); m != n || size != len(s) || err != api.OK {
					t.Errorf("Get of Put(%d): %d %d %d", n, m, size, err)
				}
			}
		}
	}
}

// What Get takes is what Put tells: no number has two forms.
func TestPutOfGet(t *testing.T) {
	for first := range 256 {
		for second := range 256 {
			s := string([]byte{byte(first), byte(second), 7, 0, 9, 0, 0, 0, 1})
			n, size, err := octets.Get(s)
			if err == api.OK && octets.Put(n) != s[:size] {
				t.Errorf("%x: Put of %d is not the first %d bytes", s, n, size)
			}
			if err != api.OK && (n != 0 || size != 0) {
				t.Errorf("%x: %d %d beside an error", s, n, size)
			}
		}
	}
}

func mustBytes(t *testing.T, o *octets.Out, want string) {
	t.Helper()
	if s, ok := o.Bytes(); s != want || !ok {
		t.Errorf("%x %v, not %x", s, ok, want)
	}
}

func mustSpoil(t *testing.T, o *octets.Out) {
	t.Helper()
	if s, ok := o.Bytes(); s != "" || ok {
		t.Errorf("%d bytes, %v of what can't be written", len(s), ok)
	}
}

func TestOut(t *testing.T) {
	var o octets.Out
	mustBytes(t, &o, "")
	o.Int(-256)
	mustBytes(t, &o, "\x82\x01\x00")
	mustBytes(t, &o, "\x82\x01\x00")
	o.Bool(true)
	o.Bool(false)
	o.Text("abc")
	o.Text("")
	o.Ints([]int{1, -2, 0})
	o.Ints(nil)
	o.Texts([]string{"", "z\xff"})
	o.Texts([]string{})
	mustBytes(t, &o, "\x82\x01\x00"+"\x01"+"\x00"+"\x01\x03abc"+"\x00"+
		"\x01\x03\x01\x01\x81\x02\x00"+"\x00"+"\x01\x02\x00\x01\x02z\xff"+"\x00")
}

func TestOutAtTheLimits(t *testing.T) {
	var o octets.Out
	o.Int(api.MaxNumber)
	o.Int(-api.MaxNumber)
	o.Text(strings.Repeat("x", api.MaxText))
	o.Ints(make([]int, api.MaxText))
	o.Texts(make([]string, api.MaxText))
	o.Texts([]string{strings.Repeat("y", api.MaxText)})
	long := "\x03\x01\x00\x00"
	mustBytes(t, &o, "\x07\x20\x00\x00\x00\x00\x00\x00"+"\x87\x20\x00\x00\x00\x00\x00\x00"+
		long+strings.Repeat("x", api.MaxText)+
		long+strings.Repeat("\x00", api.MaxText)+
		long+strings.Repeat("\x00", api.MaxText)+
		"\x01\x01"+long+strings.Repeat("y", api.MaxText))
}

func TestOutSpoilt(t *testing.T) {
	long := strings.Repeat("x", api.MaxText+1)
	for k, spoil := range []func(o *octets.Out){
		func(o *octets.Out) { o.Int(api.MaxNumber + 1) },
		func(o *octets.Out) { o.Int(math.MinInt) },
		func(o *octets.Out) { o.Text(long) },
		func(o *octets.Out) { o.Ints([]int{1, -api.MaxNumber - 1, 2}) },
		func(o *octets.Out) { o.Ints(make([]int, api.MaxText+1)) },
		func(o *octets.Out) { o.Texts([]string{"a", long, "b"}) },
		func(o *octets.Out) { o.Texts(make([]string, api.MaxText+1)) },
	} {
		t.Log(k)
		var first octets.Out
		spoil(&first)
		mustSpoil(t, &first)
		var o octets.Out
		o.Text("ahead")
		mustBytes(t, &o, "\x01\x05ahead")
		spoil(&o)
		mustSpoil(t, &o)
		o.Int(1)
		o.Bool(true)
		o.Text("a")
		o.Ints([]int{1})
		o.Texts([]string{"a"})
		mustSpoil(t, &o)
	}
}

func TestOutOfNil(t *testing.T) {
	var o *octets.Out
	o.Int(1)
	o.Int(math.MaxInt)
	o.Bool(true)
	o.Bool(false)
	o.Text("a")
	o.Text(strings.Repeat("x", api.MaxText+1))
	o.Ints([]int{1})
	o.Ints(make([]int, api.MaxText+1))
	o.Texts([]string{"a"})
	o.Texts(make([]string, api.MaxText+1))
	mustSpoil(t, o)
}

func TestOutLeavesWhatItIsGiven(t *testing.T) {
	ints, texts := []int{1, 2, 3}, []string{"a", "b", "c"}
	var o octets.Out
	o.Ints(ints[:2])
	o.Texts(texts[:2])
	if ints[0] != 1 || ints[1] != 2 || ints[2] != 3 || texts[0] != "a" || texts[1] != "b" || texts[2] != "c" {
		t.Error(ints, texts)
	}
	ints[0], texts[0] = 9, "z"
	mustBytes(t, &o, "\x01\x02\x01\x01\x01\x02"+"\x01\x02\x01\x01a\x01\x01b")
}

// What was asked of one Out says nothing of another one that was made as its copy.
func TestOutCopied(t *testing.T) {
	var o octets.Out
	o.Text("a text that leaves some room behind it")
	o.Int(1)
	p := o
	o.Int(2)
	q := o
	p.Int(3)
	q.Bool(true)
	o.Bool(false)
	ahead := "\x01\x26a text that leaves some room behind it\x01\x01"
	mustBytes(t, &o, ahead+"\x01\x02\x00")
	mustBytes(t, &p, ahead+"\x01\x03")
	mustBytes(t, &q, ahead+"\x01\x02\x01")
	q = p
	q.Int(api.MaxNumber + 1)
	mustSpoil(t, &q)
	mustBytes(t, &p, ahead+"\x01\x03")
}

func TestIn(t *testing.T) {
	var o octets.Out
	o.Int(-300)
	o.Bool(true)
	o.Bool(false)
	o.Text("a\x00\xff")
	o.Text("")
	o.Ints([]int{api.MaxNumber, -1})
	o.Ints(nil)
	o.Texts([]string{"", "b"})
	o.Texts(nil)
	o.Int(7)
	s, _ := o.Bytes()
	i := octets.Open(s)
	if n := i.Int(); n != -300 {
		t.Error(n)
	}
	if yes, no := i.Bool(), i.Bool(); !yes || no {
		t.Error(yes, no)
	}
	if a, b := i.Text(), i.Text(); a != "a\x00\xff" || b != "" {
		t.Errorf("%q %q", a, b)
	}
	if l, none := i.Ints(2), i.Ints(0); len(l) != 2 || l[0] != api.MaxNumber || l[1] != -1 || len(none) != 0 {
		t.Error(l, none)
	}
	if l, none := i.Texts(2), i.Texts(0); len(l) != 2 || l[0] != "" || l[1] != "b" || len(none) != 0 {
		t.Error(l, none)
	}
	if i.Err() != api.OK || i.End() != api.ErrTail {
		t.Error(i.Err(), i.End())
	}
	if n := i.Int(); n != 7 || i.Err() != api.OK || i.End() != api.OK {
		t.Error(n, i.Err(), i.End())
	}
}

func TestInAtTheEnd(t *testing.T) {
	for _, s := range []string{"", "\x00"} {
		i := octets.Open(s)
		if i == nil || i.Err() != api.OK {
			t.Fatalf("%q", s)
		}
	}
	if err := octets.Open("").End(); err != api.OK {
		t.Error(err)
	}
	if err := octets.Open("\x00").End(); err != api.ErrTail {
		t.Error(err)
	}
	i := octets.Open("")
	if n := i.Int(); n != 0 || i.Err() != api.ErrShort || i.End() != api.ErrShort {
		t.Error(n, i.Err(), i.End())
	}
}

// The calls of an In, each of which answers whether it told nothing.
func inCalls() map[string]func(i *octets.In) bool {
	return map[string]func(i *octets.In) bool{
		"Int":       func(i *octets.In) bool { return i.Int() == 0 },
		"Bool":      func(i *octets.In) bool { return !i.Bool() },
		"Text":      func(i *octets.In) bool { return i.Text() == "" },
		"Ints":      func(i *octets.In) bool { return len(i.Ints(api.MaxText)) == 0 },
		"Ints 2":    func(i *octets.In) bool { return len(i.Ints(2)) == 0 },
		"Ints -1":   func(i *octets.In) bool { return len(i.Ints(-1)) == 0 },
		"Ints max":  func(i *octets.In) bool { return len(i.Ints(math.MaxInt)) == 0 },
		"Texts":     func(i *octets.In) bool { return len(i.Texts(api.MaxText)) == 0 },
		"Texts 2":   func(i *octets.In) bool { return len(i.Texts(2)) == 0 },
		"Texts min": func(i *octets.In) bool { return len(i.Texts(math.MinInt)) == 0 },
		"Texts max": func(i *octets.In) bool { return len(i.Texts(math.MaxInt)) == 0 },
	}
}

func TestInErrors(t *testing.T) {
	long := "\x03\x01\x00\x01" // a length of MaxText + 1
	calls := inCalls()
	for _, c := range []struct {
		call, s string
		err     api.Errno
	}{
		{"Int", "", api.ErrShort},
		{"Int", "\x02\x01", api.ErrShort},
		{"Int", "\x01\x00", api.ErrForm},
		{"Int", "\x09", api.ErrForm},
		{"Bool", "", api.ErrShort},
		{"Bool", "\x02", api.ErrForm},
		{"Bool", "\x80", api.ErrForm},
		{"Bool", "\xff\x01", api.ErrForm},
		{"Text", "", api.ErrShort},
		{"Text", "\x01", api.ErrShort},
		{"Text", "\x80", api.ErrForm},
		{"Text", "\x81\x01a", api.ErrForm},
		{"Text", "\x01\x03ab", api.ErrShort},
		{"Text", "\x03\x01\x00\x00ab", api.ErrShort},
		{"Text", long + "ab", api.ErrLong},
		{"Text", long + strings.Repeat("a", api.MaxText+1), api.ErrLong},
		{"Ints", "", api.ErrShort},
		{"Ints", "\x08", api.ErrForm},
		{"Ints", "\x81\x01", api.ErrForm},
		{"Ints -1", "\x81\x02", api.ErrForm},
		{"Ints -1", "\x00", api.ErrLong},
		{"Ints 2", "\x01\x03\x00\x00\x00", api.ErrLong},
		{"Ints 2", "\x01\x03", api.ErrLong},
		{"Ints", long, api.ErrLong},
		{"Ints max", long + strings.Repeat("\x00", api.MaxText+1), api.ErrLong},
		{"Ints 2", "\x01\x02\x01\x05", api.ErrShort},
		{"Ints 2", "\x01\x02\x01\x05\x80", api.ErrForm},
		{"Ints 2", "\x01\x02\x80", api.ErrForm},
		{"Texts", "", api.ErrShort},
		{"Texts", "\x08", api.ErrForm},
		{"Texts", "\x82\x01\x00", api.ErrForm},
		{"Texts min", "\x81\x01", api.ErrForm},
		{"Texts min", "\x00", api.ErrLong},
		{"Texts 2", "\x01\x03\x00\x00\x00", api.ErrLong},
		{"Texts max", long + strings.Repeat("\x00", api.MaxText+1), api.ErrLong},
		{"Texts 2", "\x01\x02\x01\x01a", api.ErrShort},
		{"Texts 2", "\x01\x02\x01\x01a\x01\x02b", api.ErrShort},
		{"Texts 2", "\x01\x02\x01\x01a\x81\x01b", api.ErrForm},
		{"Texts 2", "\x01\x02" + long, api.ErrLong},
		{"Texts 2", "\x01\x02\x80", api.ErrForm},
	} {
		i := octets.Open(c.s)
		if none := calls[c.call](i); !none || i.Err() != c.err || i.End() != c.err {
			t.Errorf("%s of %.20x: %v %d %d, not %d", c.call, c.s, none, i.Err(), i.End(), c.err)
		}
	}
}

func TestInTakesNothingBehindAnError(t *testing.T) {
	for first, fail := range map[string]api.Errno{"\x02": api.ErrForm, "": api.ErrShort} {
		for name, call := range inCalls() {
			i := octets.Open(first + "\x01\x01\x01\x01\x01\x01")
			if first == "" {
				i = octets.Open("")
			}
			if i.Bool() || i.Err() != fail {
				t.Fatal(i.Err())
			}
			if !call(i) || i.Err() != fail || i.End() != fail {
				t.Errorf("%s: %d %d", name, i.Err(), i.End())
			}
		}
	}
}

func TestInAtTheLimits(t *testing.T) {
	var o octets.Out
	o.Text(strings.Repeat("x", api.MaxText))
	o.Ints(make([]int, api.MaxText))
	o.Texts(make([]string, api.MaxText))
	s, _ := o.Bytes()
	i := octets.Open(s)
	if a, b, c := len(i.Text()), len(i.Ints(api.MaxText)), len(i.Texts(math.MaxInt)); a != api.MaxText || b != api.MaxText || c != api.MaxText || i.End() != api.OK {
		t.Error(a, b, c, i.End())
	}
}

func TestInOfNil(t *testing.T) {
	var i *octets.In
	for name, call := range inCalls() {
		if !call(i) {
			t.Error(name)
		}
	}
	if i.Err() != api.ErrArg || i.End() != api.ErrArg {
		t.Error(i.Err(), i.End())
	}
}

func TestInAnswersAreNew(t *testing.T) {
	s := "\x01\x02\x01\x05\x01\x06"
	a, b := octets.Open(s+s), octets.Open(s)
	l := a.Ints(2)
	l[0], l[1] = 8, 9
	if m := append(l, 7); len(m) != 3 {
		t.Error(m)
	}
	if m, n := a.Ints(2), b.Ints(2); m[0] != 5 || m[1] != 6 || n[0] != 5 || n[1] != 6 {
		t.Error(m, n)
	}
}
