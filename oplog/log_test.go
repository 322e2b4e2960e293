package oplog_test

import (
	"fmt"
	"math"
	"slices"
	"testing"

	"primer/message"
	"primer/oplog"
)

// told: a log as a text, and the same text for the same logs alone.
func told(l oplog.Log) string {
	return fmt.Sprintf("%d %q %#v", l.Base, l.State, slices.Concat(l.Entries))
}

// entry of a client, with its number, and the text that the number is.
func entry(client, number int) message.Entry {
	return message.Entry{Client: client, Number: number, Text: fmt.Sprint(number)}
}

// log of the numbers 6 to 9.
func log() oplog.Log {
	return oplog.Log{Base: 5, State: "five", Entries: []message.Entry{entry(0, 1), entry(1, 1), entry(0, 2), entry(2, 7)}}
}

func TestOp(t *testing.T) {
	for _, x := range []struct {
		l    oplog.Log
		want int
	}{
		{oplog.Log{}, 0}, {oplog.Log{Base: 5}, 5}, {log(), 9}, {oplog.Log{Entries: log().Entries}, 4},
	} {
		if got := x.l.Op(); got != x.want {
			t.Error(told(x.l), got)
		}
	}
}

func TestAt(t *testing.T) {
	l := log()
	for op, want := range map[int]message.Entry{6: entry(0, 1), 7: entry(1, 1), 8: entry(0, 2), 9: entry(2, 7)} {
		if got, ok := l.At(op); got != want || !ok {
			t.Error(op, got, ok)
		}
	}
	for _, op := range []int{5, 4, 1, 0, -1, 10, 11, math.MinInt, math.MaxInt} {
		if got, ok := l.At(op); ok || got != (message.Entry{}) {
			t.Error(op, got, ok)
		}
		if got, ok := (oplog.Log{}).At(op); ok || got != (message.Entry{}) {
			t.Error(op, got, ok, "of the empty log")
		}
	}
}

func TestAdd(t *testing.T) {
	if got := told((oplog.Log{}).Add(entry(1, 3))); got != told(oplog.Log{Entries: []message.Entry{entry(1, 3)}}) {
		t.Error(got)
	}
	l := log()
	l.Entries = slices.Grow(l.Entries, 10)
	a, b := l.Add(entry(1, 3)), l.Add(entry(2, 8))
	if told(l) != told(log()) {
		t.Error("changed:", told(l))
	}
	for _, x := range []struct {
		l    oplog.Log
		last message.Entry
	}{{a, entry(1, 3)}, {b, entry(2, 8)}} {
		want := log()
		want.Entries = append(want.Entries, x.last)
		if got := told(x.l); got != told(want) {
			t.Error(got)
		}
	}
	if room := l.Entries[:cap(l.Entries)]; room[len(l.Entries)] != (message.Entry{}) {
		t.Error("the room behind was changed")
	}
}

func TestCut(t *testing.T) {
	l := log()
	for op := 6; op <= 9; op++ {
		got, ok := l.Cut(op, "new")
		if want := (oplog.Log{Base: op, State: "new", Entries: log().Entries[op-5:]}); !ok || told(got) != told(want) {
			t.Error(op, told(got), ok)
		}
	}
	for _, op := range []int{5, 4, 0, -1, 10, math.MinInt, math.MaxInt} {
		if got, ok := l.Cut(op, "new"); ok || told(got) != told(log()) {
			t.Error(op, told(got), ok)
		}
		if got, ok := (oplog.Log{}).Cut(op, "new"); ok || told(got) != told(oplog.Log{}) {
			t.Error(op, told(got), ok, "of the empty log")
		}
	}
	if told(l) != told(log()) {
		t.Error("changed:", told(l))
	}
}

func TestMerge(t *testing.T) {
	newer := func(base int, entries ...message.Entry) oplog.Log {
		return oplog.Log{Base: base, State: "new", Entries: entries}
	}
	old := func(entries ...message.Entry) oplog.Log {
		return oplog.Log{Base: 5, State: "five", Entries: entries}
	}
	a, b, c := entry(1, 11), entry(1, 12), entry(1, 13)
	for _, x := range []struct{ n, want oplog.Log }{
		{newer(6, a, b), newer(6, a, b)},
		{newer(6), newer(6)},
		{newer(50, a), newer(50, a)},
		{newer(5, a), newer(5, a)}, // the same Base
		{newer(5), newer(5)},
		{newer(4, a), old()},
		{newer(4, a, b), old(b)},
		{newer(4, a, b, c), old(b, c)},
		{newer(4), old()},
		{newer(3, a, b, c), old(c)},
		{newer(3, a), old()},
		{oplog.Log{}, old()},
		{oplog.Log{Entries: []message.Entry{a, a, a, a, a, b, c}}, old(b, c)},
	} {
		if got := log().Merge(x.n); told(got) != told(x.want) {
			t.Errorf("%s: %s, not %s", told(x.n), told(got), told(x.want))
		}
	}
}

func TestLast(t *testing.T) {
	l := log()
	for client, want := range map[int]int{0: 2, 1: 1, 2: 7, 3: 0, -1: 0, math.MaxInt: 0, math.MinInt: 0} {
		if got := l.Last(client); got != want {
			t.Error(client, got)
		}
	}
	l.Entries = []message.Entry{entry(0, 5), entry(0, 3), entry(1, -4)}
	for client, want := range map[int]int{0: 5, 1: 0, 2: 0} {
		if got := l.Last(client); got != want {
			t.Error(client, got)
		}
	}
}

func TestAgree(t *testing.T) {
	turned := func(turn func(x *message.Entry)) oplog.Log {
		l := log()
		turn(&l.Entries[2])
		return l
	}
	cut, _ := log().Cut(8, "")
	for _, x := range []struct {
		what string
		l    oplog.Log
		want bool
	}{
		{"the same", log(), true},
		{"the empty one", oplog.Log{}, true},
		{"a longer one", log().Add(entry(1, 1)), true},
		{"a shorter one", oplog.Log{Base: 5, Entries: log().Entries[:2]}, true},
		{"a cut one", cut, true},
		{"a longer cut one", cut.Add(entry(2, 2)), true},
		{"nothing alike", oplog.Log{Base: 9, Entries: []message.Entry{entry(0, 99)}}, true},
		{"nothing alike, ahead", oplog.Log{Base: 0, Entries: slices.Repeat([]message.Entry{entry(0, 99)}, 5)}, true},
		{"another one at the end", oplog.Log{Base: 8, Entries: []message.Entry{entry(0, 99)}}, false},
		{"another one at the beginning", oplog.Log{Base: 0, Entries: slices.Repeat([]message.Entry{entry(0, 99)}, 6)}, false},
		{"another client", turned(func(x *message.Entry) { x.Client = 1 }), false},
		{"another number", turned(func(x *message.Entry) { x.Number = 9 }), false},
		{"another text", turned(func(x *message.Entry) { x.Text = "" }), false},
		{"one place further on", oplog.Log{Base: 6, Entries: log().Entries}, false},
	} {
		if oplog.Agree(log(), x.l) != x.want || oplog.Agree(x.l, log()) != x.want {
			t.Error(x.what)
		}
	}
	other := log()
	other.State = "other"
	if !oplog.Agree(log(), other) {
		t.Error("States count")
	}
}

// TestLogsKept: what is made of a log shares no list with it.
func TestLogsKept(t *testing.T) {
	l, n, far := log(), log(), oplog.Log{Base: 3, Entries: log().Entries}
	cut, _ := l.Cut(6, "x")
	same, _ := l.Cut(0, "x")
	for _, made := range []oplog.Log{l.Add(entry(1, 1)), cut, same, l.Merge(n), l.Merge(far), l.Merge(oplog.Log{})} {
		clear(made.Entries)
	}
	if told(l) != told(log()) || told(n) != told(log()) || told(far) != told(oplog.Log{Base: 3, Entries: log().Entries}) {
		t.Error(told(l), told(n), told(far))
	}
}
