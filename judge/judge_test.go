package judge_test

import (
	"math"
	"slices"
	"testing"

	"primer/api"
	"primer/cluster"
	"primer/command"
	"primer/judge"
	"primer/message"
	"primer/oplog"
)

// enrol somebody by a: as a teacher, where it is a itself.
func enrol(name string) string {
	role := 1
	if name == "a" {
		role = 2
	}
	return command.Put(command.Command{Kind: command.Enrol, Who: "a", Name: name, Nums: [4]int{role}})
}

// show the draft of a: its Count tells how many edits there were.
func show() string {
	return command.Put(command.Command{Kind: command.Show, Who: "a"})
}

// reply with nothing but a code.
func reply(code api.Errno) string {
	return command.PutReply(command.Reply{Code: code})
}

// entries of events.
func entries(h ...cluster.Event) []message.Entry {
	var l []message.Entry
	for _, e := range h {
		l = append(l, message.Entry{Client: e.Client, Number: e.Number, Text: e.Text})
	}
	return l
}

// The requests of most tests: a enrols itself, then b.
var (
	first  = cluster.Event{Client: 0, Number: 1, Text: enrol("a"), Asked: 1, Answered: 3, Reply: reply(api.OK)}
	second = cluster.Event{Client: 1, Number: 1, Text: enrol("b"), Asked: 4, Answered: 6, Reply: reply(api.OK)}
)

// with other times.
func with(e cluster.Event, asked, answered int) cluster.Event {
	e.Asked, e.Answered = asked, answered
	return e
}

// open: it isn't answered.
func open(e cluster.Event) cluster.Event {
	e.Answered, e.Reply = 0, ""
	return e
}

// told a reply of that code.
func told(e cluster.Event, code api.Errno) cluster.Event {
	e.Reply = reply(code)
	return e
}

// of a client with a number.
func of(e cluster.Event, client, number int) cluster.Event {
	e.Client, e.Number = client, number
	return e
}

func events(h ...cluster.Event) []cluster.Event {
	return h
}

func TestBears(t *testing.T) {
	both := entries(first, second)
	turned := entries(second, first)
	other := message.Entry{Client: 1, Number: 1, Text: "other"}
	for _, x := range []struct {
		what string
		l    []message.Entry
		h    []cluster.Event
		want bool
	}{
		{"nothing", nil, nil, true},
		{"no events", both, nil, true},
		{"as it was", both, events(first, second), true},
		{"events in another order", both, events(second, first), true},
		{"an entry of no event", both, events(first), true},
		{"no entry", entries(first), events(first, second), false},
		{"no entries", nil, events(first), false},
		{"no entry of an open one", entries(first), events(first, open(second)), true},
		{"an entry of an open one", both, events(first, open(second)), true},
		{"another text", append(entries(first), other), events(first, second), false},
		{"another text of an open one", append(entries(first), other), events(first, open(second)), true},
		{"another client", both, events(first, of(second, 2, 1)), false},
		{"another number", both, events(first, of(second, 1, 2)), false},
		{"another reply", both, events(first, told(second, api.ErrExists)), false},
		{"no reply", both, events(first, cluster.Event{Client: 1, Number: 1, Text: second.Text, Asked: 4, Answered: 6}), false},
		{"a reply of an open one", both, events(first, cluster.Event{Client: 1, Number: 1, Text: second.Text, Asked: 4, Reply: "?"}), true},
		{"the other way round", turned, events(first, told(second, api.ErrRole)), false},
		{"with the same times", turned, events(with(first, 1, 4), told(second, api.ErrRole)), true},
		{"the other way round, replies as of the first", turned, events(with(first, 1, 4), second), false},
		{"an open one ahead", turned, events(first, open(second)), false},
		{"an open one that may be ahead", turned, events(first, with(open(second), 3, 0)), true},
		{"an open one that isn't there", entries(first), events(first, open(second)), true},
		{"answered below nought", turned, events(with(first, 1, -3), open(second)), true},
		{"least times", turned, events(with(first, 1, math.MinInt), with(open(second), math.MaxInt, 0)), true},
		{"greatest times", both, events(with(first, math.MinInt, 1), with(second, math.MaxInt, math.MaxInt)), true},
		{"greatest times, turned", turned, events(with(first, math.MinInt, 1), with(told(second, api.ErrRole), math.MaxInt, math.MaxInt)), false},
		{"ahead of itself", both, events(with(first, 4, 3), second), false},
		{"just not ahead of itself", both, events(with(first, 3, 3), second), true},
		{"answered by nothing and ahead of itself", both, events(with(first, 4, 0), second), true},
		{"open, without an entry, asked later", entries(first), events(with(first, 1, 3), with(open(second), 9, -9)), true},
		{"an entry twice", entries(first, second, first), events(first, second), false},
		{"an entry twice, no events", entries(first, first), nil, false},
		{"a number twice", append(entries(first, second), other), events(first, second), false},
		{"a number of two clients", entries(first, second, of(second, 2, 1)), events(first, second), true},
		{"one request as two events", both, events(first, second, second), true},
		{"one request as two events, one ahead", both, events(first, second, with(second, 7, 8)), false},
	} {
		if got := judge.Bears(x.l, x.h); got != x.want {
			t.Errorf("%s: %v", x.what, got)
		}
	}
}

// TestHandMade: of clients that there aren't, and of numbers that go down, a machine applies nothing.
func TestHandMade(t *testing.T) {
	late := of(second, 0, 2)
	for _, client := range []int{-1, 3, math.MaxInt, math.MinInt} {
		strange := of(second, client, 1)
		if judge.Bears(entries(first, strange), events(first, strange)) || judge.Fits(events(first, strange), []int{0, 1}) {
			t.Error(client, "is told a reply")
		}
		strange.Reply = ""
		if !judge.Bears(entries(first, strange), events(first, strange)) || !judge.Fits(events(first, strange), []int{0, 1}) {
			t.Error(client, "is told none")
		}
		if l, ok := judge.Order(events(strange, first)); !ok || !slices.Equal(l, []int{1, 0}) {
			t.Error(client, l, ok)
		}
	}
	for _, number := range []int{0, -1, math.MinInt, 1} {
		again := with(of(second, 0, number), 1, 9)
		if number != 1 && judge.Bears(entries(late, again), events(again)) {
			t.Error(number, "is told a reply")
		}
		again.Reply = ""
		if !judge.Bears(entries(late, again), events(again)) {
			t.Error(number, "is told none")
		}
	}
}

func TestFits(t *testing.T) {
	third := cluster.Event{Client: 2, Number: 1, Text: show(), Asked: 2, Answered: 9, Reply: reply(api.OK)}
	h := events(first, second, third)
	loose := events(with(first, 1, 9), told(with(second, 1, 9), api.ErrRole), with(open(third), 1, 0))
	for _, x := range []struct {
		what  string
		h     []cluster.Event
		order []int
		want  bool
	}{
		{"nothing", nil, nil, true},
		{"no such place", nil, []int{0}, false},
		{"as it was", h, []int{0, 1, 2}, true},
		{"another way", h, []int{0, 2, 1}, true},
		{"another reply", h, []int{2, 0, 1}, false},
		{"the other way round", h, []int{1, 0, 2}, false},
		{"an answered one is missing", h, []int{0, 1}, false},
		{"none", h, nil, false},
		{"one twice", h, []int{0, 1, 2, 2}, false},
		{"one twice, and one is missing", h, []int{0, 1, 1}, false},
		{"a place below nought", h, []int{0, 1, 2, -1}, false},
		{"a place that is too great", h, []int{0, 1, 2, 3}, false},
		{"far places", h, []int{math.MaxInt, math.MinInt, 0, 1, 2}, false},
		{"with an open one", loose, []int{1, 0, 2}, true},
		{"with an open one ahead", loose, []int{2, 1, 0}, true},
		{"without an open one", loose, []int{1, 0}, true},
		{"another reply with an open one", loose, []int{0, 1, 2}, false},
		{"open ones alone", events(open(first), open(second)), nil, true},
		{"an open one in turn", events(first, open(second)), []int{0, 1}, true},
		{"an open one out of turn", events(first, open(second)), []int{1, 0}, false},
		{"an open one that isn't in it", events(first, with(open(second), 0, 0)), []int{0}, true},
		{"an open one that makes a reply", events(open(first), second), []int{0, 1}, true},
		{"and is missing", events(open(first), second), []int{1}, false},
		{"ahead of itself", events(with(first, 4, 3)), []int{0}, false},
		{"just not ahead of itself", events(with(first, 3, 3)), []int{0}, true},
		{"answered below nought", events(with(first, 1, -1), told(second, api.ErrRole)), []int{1}, true},
		{"one request twice", events(first, with(first, 2, 3)), []int{0, 1}, false},
		{"one request twice, once told nothing", events(first, cluster.Event{Number: 1, Text: first.Text, Answered: 9}), []int{0, 1}, true},
	} {
		if got := judge.Fits(x.h, x.order); got != x.want {
			t.Errorf("%s: %v", x.what, got)
		}
	}
}

func TestOrder(t *testing.T) {
	third := cluster.Event{Client: 2, Number: 1, Text: show(), Asked: 2, Answered: 9, Reply: reply(api.ErrNone)}
	var none []cluster.Event // eight, all of which were told that they aren't the first
	for k := range 8 {
		none = append(none, cluster.Event{Client: k % 3, Number: 1 + k/3, Text: enrol("a"), Asked: 1, Answered: 9, Reply: reply(api.ErrExists)})
	}
	one := slices.Clone(none)
	one[2].Reply = reply(api.OK)
	for _, x := range []struct {
		what string
		h    []cluster.Event
		want bool
	}{
		{"nothing", nil, true},
		{"as it was", events(first, second), true},
		{"as it was, turned", events(second, first), true},
		{"the other way round", events(first, told(second, api.ErrRole)), false},
		{"the other way round at one time", events(with(first, 1, 9), told(second, api.ErrRole)), true},
		{"one that comes first", events(second, first, third), true},
		{"one that can't come first", events(second, first, with(third, 4, 9)), false},
		{"an open one that must be", events(second, with(open(first), 5, 0)), true},
		{"an open one that comes too late", events(second, with(open(first), 7, 0)), false},
		{"open ones alone", events(open(first), with(open(second), 9, 0)), true},
		{"ahead of itself", events(with(first, 4, 3)), false},
		{"eight", one, true},
		{"eight, of which none is the first", none, false},
		{"nine open ones", slices.Repeat(events(open(first)), 9), false},
		{"eight open ones", slices.Repeat(events(open(first)), 8), true},
		{"nine", append(slices.Clone(one), open(second)), false},
	} {
		l, ok := judge.Order(x.h)
		if ok != x.want || !ok && len(l) > 0 || ok && !judge.Fits(x.h, l) {
			t.Errorf("%s: %v %v", x.what, l, ok)
		}
	}
}

// TestLong: a long chronicle of a long history takes no long time.
func TestLong(t *testing.T) {
	var h []cluster.Event
	m := oplog.New()
	for k := range 3000 {
		e := cluster.Event{Client: k % 3, Number: 1 + k/3, Text: show(), Asked: 2*k + 1, Answered: 2*k + 2}
		e.Reply = m.Apply(entries(e)[0])
		h = append(h, e)
	}
	l := entries(h...)
	order := make([]int, len(h))
	for k := range order {
		order[k] = k
	}
	if !judge.Bears(l, h) || !judge.Fits(h, order) {
		t.Error("as it was")
	}
	l[1000], l[1001] = l[1001], l[1000]
	order[1000], order[1001] = 1001, 1000
	if judge.Bears(l, h) || judge.Fits(h, order) {
		t.Error("two the other way round")
	}
	h[1000].Answered, h[1001].Asked = 3000, 2900
	if judge.Bears(l, h) || judge.Fits(h, order) {
		t.Error("answered too late for those behind")
	}
	h[1000].Answered, h[1001].Asked = 2003, 2003
	if !judge.Bears(l, h) || !judge.Fits(h, order) {
		t.Error("two at the same time")
	}
}

// TestAsItWas: what is handed in is as it was, and what is told is new.
func TestAsItWas(t *testing.T) {
	h, l := append(make([]cluster.Event, 0, 9), second, first), append(make([]message.Entry, 0, 9), entries(first, second)...)
	order := append(make([]int, 0, 9), 1, 0)
	if !judge.Bears(l, h) || !judge.Fits(h, order) {
		t.Error("as it was")
	}
	a, _ := judge.Order(h)
	b, _ := judge.Order(h)
	a[0] = 7
	if !slices.Equal(b, []int{1, 0}) || !slices.Equal(order[:9], append([]int{1, 0}, make([]int, 7)...)) {
		t.Error(b, order[:9])
	}
	if !slices.Equal(h[:9], append(events(second, first), make([]cluster.Event, 7)...)) || !slices.Equal(l[:9], append(entries(first, second), make([]message.Entry, 7)...)) {
		t.Error(h[:9], l[:9])
	}
}
