package oplog_test

import (
	"math"
	"strings"
	"testing"

	"primer/api"
	"primer/command"
	"primer/message"
	"primer/octets"
	"primer/oplog"
	"primer/school"
)

// ask: the entry of a client's request with that number.
func ask(client, number int, c command.Command) message.Entry {
	return message.Entry{Client: client, Number: number, Text: command.Put(c)}
}

func enrol(who, name string, role int) command.Command {
	return command.Command{Kind: command.Enrol, Who: who, Name: name, Nums: [4]int{role}}
}

func edit(who, text string) command.Command {
	return command.Command{Kind: command.Edit, Who: who, Text: text}
}

// reply: the bytes of a reply with that code alone.
func reply(err api.Errno) string {
	return command.PutReply(command.Reply{Code: err})
}

func TestApply(t *testing.T) {
	m, s := oplog.New(), school.New()
	for _, x := range []struct {
		client, number int
		c              command.Command
		want           bool // is it applied?
	}{
		{0, 1, enrol("tea", "tea", 2), true},
		{0, 1, enrol("tea", "tea", 2), false}, // the chapter's own
		{0, 1, edit("tea", "a: ;"), false},    // the number alone counts
		{0, 0, edit("tea", "a: ;"), false},
		{0, -1, edit("tea", "a: ;"), false},
		{0, math.MinInt, edit("tea", "a: ;"), false},
		{1, 0, edit("tea", "a: ;"), false},
		{1, -1, edit("tea", "a: ;"), false},
		{3, 1, edit("tea", "a: ;"), false},
		{-1, 1, edit("tea", "a: ;"), false},
		{math.MaxInt, 1, edit("tea", "a: ;"), false},
		{math.MinInt, 1, edit("tea", "a: ;"), false},
		{1, 1, enrol("tea", "ann", 1), true},
		{2, 5, edit("ann", "a:'x'|;"), true}, // numbers may be left out
		{2, 4, edit("ann", "b: ;"), false},
		{2, 5, edit("ann", "b: ;"), false},
		{2, 6, edit("ann", "b"), true},
		{0, 2, edit("bob", "b: ;"), true},
		{1, 2, enrol("ann", "bob", 1), true},
		{1, api.MaxNumber, command.Command{Kind: command.Show, Who: "tea", Name: "ann"}, true},
		{1, 3, edit("ann", "b: ;"), false},
	} {
		want := ""
		if x.want {
			want = command.PutReply(s.Apply(x.c))
		}
		if got := m.Apply(ask(x.client, x.number, x.c)); got != want {
			t.Errorf("%+v: %x, not %x", x, got, want)
		}
		if n, r := m.Known(x.client); x.want && (n != x.number || r != want) {
			t.Errorf("%+v: known %d %x", x, n, r)
		}
	}
	want := bytes(s.Snapshot(), 3, 0, 2, reply(api.ErrNone), 1, api.MaxNumber)
	if got := m.State(); !strings.HasPrefix(got, want) {
		t.Errorf("%x, not %x", got, want)
	}
}

func TestApplyOfNoCommand(t *testing.T) {
	m := oplog.New()
	undo := command.Put(command.Command{Kind: command.Undo, Who: "a"})
	long := command.Put(edit("a", strings.Repeat("x", api.MaxCommand)))
	for k, x := range []struct {
		text string
		want api.Errno
	}{
		{"", api.ErrShort}, {"\x08", api.ErrForm}, {undo[:len(undo)-1], api.ErrShort}, {undo + "\x00", api.ErrTail}, {"\x01\x13" + undo[2:], api.ErrForm},
		{undo[:5] + "\x03\x01\x00\x01", api.ErrLong}, {undo, api.ErrNone}, {long, api.ErrLong},
	} {
		if got := m.Apply(message.Entry{Client: 1, Number: k + 1, Text: x.text}); got != reply(x.want) {
			t.Errorf("%x: %x, not %d", x.text, got, x.want)
		}
		if n, r := m.Known(1); n != k+1 || r != reply(x.want) {
			t.Errorf("%x: known %d %x", x.text, n, r)
		}
	}
	if got, want := m.State(), bytes(school.New().Snapshot(), 1, 1, 8, reply(api.ErrLong)); got != want {
		t.Errorf("%x, not %x", got, want)
	}
}

func TestKnown(t *testing.T) {
	m := oplog.New()
	m.Apply(ask(2, 4, enrol("a", "a", 2)))
	for client, want := range map[int]int{0: 0, 1: 0, 2: 4, 3: 0, -1: 0, math.MinInt: 0, math.MaxInt: 0} {
		n, r := m.Known(client)
		if n != want || (r != "") != (want > 0) || want > 0 && r != reply(api.OK) {
			t.Errorf("%d: %d %x", client, n, r)
		}
	}
}

func TestNilMachine(t *testing.T) {
	var m *oplog.Machine
	for client := -1; client <= api.MaxClients; client++ {
		if got := m.Apply(ask(client, 1, enrol("a", "a", 2))); got != "" {
			t.Errorf("%x", got)
		}
		if n, r := m.Known(client); n != 0 || r != "" {
			t.Errorf("%d %x", n, r)
		}
	}
	if got := m.State(); got != "" {
		t.Errorf("%x", got)
	}
}

// A Number that has no bytes: neither has the machine, from then on.
func TestNumberWithoutBytes(t *testing.T) {
	m := oplog.New()
	if got := m.Apply(ask(0, api.MaxNumber+1, enrol("a", "a", 2))); got != reply(api.OK) {
		t.Errorf("%x", got)
	}
	if n, r := m.Known(0); n != api.MaxNumber+1 || r != reply(api.OK) {
		t.Errorf("%d %x", n, r)
	}
	if got := m.State(); got != "" {
		t.Errorf("%x", got)
	}
}

// bytes of numbers and texts, one behind the other.
func bytes(things ...any) string {
	var o octets.Out
	for _, x := range things {
		switch x := x.(type) {
		case int:
			o.Int(x)
		case string:
			o.Text(x)
		}
	}
	s, ok := o.Bytes()
	if !ok {
		panic("no bytes")
	}
	return s
}

// some: a school of two, as bytes.
func some(t *testing.T) string {
	t.Helper()
	s := school.New()
	for _, c := range []command.Command{enrol("tea", "tea", 2), enrol("tea", "ann", 1), edit("ann", "a:'x'|;")} {
		if r := s.Apply(c); r.Code != api.OK {
			t.Fatal(r)
		}
	}
	return s.Snapshot()
}

func TestState(t *testing.T) {
	empty := school.New().Snapshot()
	if got, want := oplog.New().State(), bytes(empty, 0); got != want {
		t.Errorf("%x, not %x", got, want)
	}
	m := oplog.New()
	m.Apply(ask(2, 7, enrol("tea", "tea", 2)))
	m.Apply(ask(0, 1, enrol("tea", "ann", 1)))
	m.Apply(ask(2, 9, edit("ann", "a:'x'|;")))
	want := bytes(some(t), 2, 0, 1, reply(api.OK), 2, 9, command.PutReply(command.Reply{Text: "a: 'x'|;\n", Count: 1}))
	if got := m.State(); got != want {
		t.Errorf("%x, not %x", got, want)
	}
}

func TestRestore(t *testing.T) {
	school, ok, odd := some(t), reply(api.OK), command.PutReply(command.Reply{Code: api.ErrWord, Line: -1, Marks: []float64{math.NaN()}})
	for _, s := range []string{
		bytes(school, 0),
		bytes(school, 1, 1, 1, ok),
		bytes(school, 2, 0, api.MaxNumber, odd, 2, 1, ok),
		bytes(school, 3, 0, 1, ok, 1, 2, ok, 2, 3, odd),
	} {
		m, err := oplog.Restore(s)
		if err != api.OK || m.State() != s {
			t.Errorf("%x: %d", s, err)
			continue
		}
		n, _ := m.Known(2)
		if got := m.Apply(ask(2, n, edit("ann", "b: ;"))); got != "" {
			t.Errorf("%x: %x", s, got)
		}
		want := command.PutReply(command.Reply{Text: "b: ;\n", Count: 2})
		if got := m.Apply(ask(2, n+1, edit("ann", "b: ;"))); got != want {
			t.Errorf("%x: %x", s, got)
		}
	}
}

func TestRestoreOfWrongBytes(t *testing.T) {
	school, ok := some(t), reply(api.OK)
	head := bytes(school)
	wrong := command.PutReply(command.Reply{Code: 21})
	for _, x := range []struct {
		what, s string
		want    api.Errno
	}{
		{"nothing", "", api.ErrShort},
		{"a length that is none", "\x08", api.ErrForm},
		{"a length below 0", "\x81\x01", api.ErrForm},
		{"a text too long", "\x03\x01\x00\x01" + strings.Repeat("x", api.MaxText+1), api.ErrLong},
		{"a text too short", head[:len(head)-1], api.ErrShort},
		{"no school", bytes("", 0), api.ErrForm},
		{"no school, and nothing behind it", bytes(""), api.ErrForm},
		{"a school and more", bytes(school+"\x00", 0), api.ErrForm},
		{"half a school", bytes(school[:len(school)-1], 0), api.ErrForm},
		{"no count", head, api.ErrShort},
		{"a count that is none", head + "\x01\x00", api.ErrForm},
		{"a count below 0", bytes(school, -1), api.ErrForm},
		{"four clients", bytes(school, 4), api.ErrForm},
		{"very many clients", bytes(school, api.MaxNumber), api.ErrForm},
		{"no client", bytes(school, 1), api.ErrShort},
		{"client 3", bytes(school, 1, 3), api.ErrForm},
		{"client -1", bytes(school, 1, -1), api.ErrForm},
		{"no Number", bytes(school, 1, 2), api.ErrShort},
		{"Number 0", bytes(school, 1, 2, 0), api.ErrForm},
		{"Number -1", bytes(school, 1, 2, -1), api.ErrForm},
		{"a Number above the greatest", bytes(school, 1, 2) + "\x07\x20\x00\x00\x00\x00\x00\x01" + bytes(ok), api.ErrForm},
		{"no reply", bytes(school, 1, 2, 1), api.ErrShort},
		{"a reply that ends too early", bytes(school, 1, 2, 1) + "\x01\x05abc", api.ErrShort},
		{"a reply too long", bytes(school, 1, 2, 1) + "\x03\x01\x00\x01", api.ErrLong},
		{"an empty reply", bytes(school, 1, 2, 1, ""), api.ErrForm},
		{"a reply that is none", bytes(school, 1, 2, 1, wrong), api.ErrForm},
		{"a reply and more", bytes(school, 1, 2, 1, ok+"\x00"), api.ErrForm},
		{"one client of two", bytes(school, 2, 1, 1, ok), api.ErrShort},
		{"a client twice", bytes(school, 2, 1, 1, ok, 1), api.ErrForm},
		{"clients that fall", bytes(school, 2, 1, 1, ok, 0), api.ErrForm},
		{"the second one's Number 0", bytes(school, 2, 1, 1, ok, 2, 0), api.ErrForm},
		{"something behind all", bytes(school, 1, 1, 1, ok, 0), api.ErrTail},
		{"something behind none", bytes(school, 0, 0), api.ErrTail},
	} {
		if m, err := oplog.Restore(x.s); m != nil || err != x.want {
			t.Error(x.what, m, err)
		}
	}
}
