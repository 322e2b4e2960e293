package session_test

import (
	"fmt"
	"math"
	"slices"
	"strings"
	"testing"

	"primer/api"
	"primer/message"
	"primer/replica"
	"primer/session"
)

// request of a client.
func request(client, number int, text string) message.Message {
	return message.Message{Kind: message.Request, Client: client, Number: number, Text: text}
}

// reply of the replica 1 in a view, to a client.
func reply(view, client, number int, text string) message.Message {
	return message.Message{Kind: message.Reply, From: 1, View: view, Client: client, Number: number, Text: text}
}

// frame of a good message, among so many replicas.
func frame(t *testing.T, m message.Message, replicas int) string {
	t.Helper()
	if m.Kind != message.Request {
		m.Known = make([]int, replicas)
	}
	f := message.Put(m, replicas)
	if f == "" {
		t.Fatalf("no good message: %+v", m)
	}
	return f
}

// to these replicas one frame.
func to(f string, all ...int) []replica.Out {
	var l []replica.Out
	for _, id := range all {
		l = append(l, replica.Out{To: id, Frame: f})
	}
	return l
}

// busy: a session's number, and a mark where it waits.
func busy(s *session.Session) string {
	n, yes := s.Busy()
	if yes {
		return fmt.Sprint(n, "?")
	}
	return fmt.Sprint(n)
}

// asks what is accepted, and looks at what is sent.
func asks(t *testing.T, s *session.Session, text string, want []replica.Out) {
	t.Helper()
	if got, err := s.Ask(text); err != api.OK || !slices.Equal(got, want) {
		t.Fatal(err, got, want)
	}
}

// refuses to ask, and is as it was.
func refuses(t *testing.T, s *session.Session, text string, want api.Errno) {
	t.Helper()
	was := busy(s)
	if got, err := s.Ask(text); err != want || len(got) != 0 || busy(s) != was {
		t.Fatal(err, want, got, busy(s), was)
	}
}

// hears a frame that is its reply.
func hears(t *testing.T, s *session.Session, f, want string) {
	t.Helper()
	if got, ok := s.Receive(f); !ok || got != want {
		t.Fatalf("%v %q, not %q", ok, got, want)
	}
}

// ignores a frame.
func ignores(t *testing.T, s *session.Session, what, f string) {
	t.Helper()
	was := busy(s)
	if got, ok := s.Receive(f); ok || got != "" || busy(s) != was {
		t.Fatalf("%s: %v %q %s", what, ok, got, busy(s))
	}
}

// ticks so often, none of which sends anything.
func ticks(t *testing.T, s *session.Session, times int) {
	t.Helper()
	for k := range times {
		if got := s.Tick(); len(got) != 0 {
			t.Fatal(k, got)
		}
	}
}

func TestNew(t *testing.T) {
	for _, client := range []int{math.MinInt, -1, 0, 1, 2, 3, 4, math.MaxInt} {
		for _, most := range []int{math.MinInt, -1, 0, 1, 2, 3, 4, 5, math.MaxInt} {
			s := session.New(client, most)
			if good := client >= 0 && client < 3 && most >= 1 && most <= 3; (s != nil) != good {
				t.Error(client, most, s)
			}
			if s != nil {
				if busy(s) != "0" {
					t.Error(busy(s))
				}
				ticks(t, s, 9)
			}
		}
	}
}

func TestNil(t *testing.T) {
	var s *session.Session
	refuses(t, s, "x", api.ErrArg)
	refuses(t, s, strings.Repeat("x", api.MaxCommand+1), api.ErrArg)
	ignores(t, s, "nil", frame(t, reply(0, 0, 1, "r"), 3))
	ignores(t, s, "nil", "")
	ticks(t, s, 9)
	if busy(s) != "0" {
		t.Error(busy(s))
	}
}

// TestExample: the chapter's own.
func TestExample(t *testing.T) {
	s := session.New(1, 1)
	first, err := s.Ask("x")
	if err != api.OK || len(first) != 1 {
		t.Fatal(first, err)
	}
	ticks(t, s, 3)
	if got := s.Tick(); !slices.Equal(got, to(first[0].Frame, 0, 1, 2)) {
		t.Error(got)
	}
}

func TestAsk(t *testing.T) {
	for _, most := range []int{1, 2, 3} {
		for client := range api.MaxClients {
			n := 2*most + 1
			s := session.New(client, most)
			for k, text := range []string{"x", "", "x", strings.Repeat("\xff", api.MaxCommand), "a\x00b"} {
				refuses(t, s, strings.Repeat("x", api.MaxCommand+1), api.ErrLong)
				asks(t, s, text, to(frame(t, request(client, k+1, text), n), 0))
				if busy(s) != fmt.Sprint(k+1, "?") {
					t.Error(busy(s))
				}
				refuses(t, s, text, api.ErrState)
				refuses(t, s, strings.Repeat("x", api.MaxCommand+1), api.ErrState)
				hears(t, s, frame(t, reply(0, client, k+1, text), n), text)
				if busy(s) != fmt.Sprint(k+1) {
					t.Error(busy(s))
				}
			}
		}
	}
}

// TestRefusedKeeps: what isn't asked leaves the Ticks as they are.
func TestRefusedKeeps(t *testing.T) {
	s := session.New(0, 1)
	f := frame(t, request(0, 1, "x"), 3)
	asks(t, s, "x", to(f, 0))
	ticks(t, s, 3)
	refuses(t, s, "y", api.ErrState)
	ignores(t, s, "of another", frame(t, reply(4, 0, 2, "r"), 3))
	if got := s.Tick(); !slices.Equal(got, to(f, 0, 1, 2)) {
		t.Error(got)
	}
}

func TestReceive(t *testing.T) {
	s := session.New(1, 1)
	ignores(t, s, "ahead of all", frame(t, reply(0, 1, 1, "r"), 3))
	asks(t, s, "x", to(frame(t, request(1, 1, "x"), 3), 0))
	good := frame(t, reply(0, 1, 1, "r"), 3)
	for what, f := range map[string]string{
		"empty":            "",
		"no frame":         "r",
		"cut short":        good[:len(good)-1],
		"and one more":     good + "x",
		"spoilt":           "\x00" + good[1:],
		"another client":   frame(t, reply(0, 0, 1, "r"), 3),
		"a greater number": frame(t, reply(0, 1, 2, "r"), 3),
		"of five replicas": frame(t, reply(0, 1, 1, "r"), 5),
		"a request":        frame(t, request(1, 1, "r"), 3),
		"a Commit":         frame(t, message.Message{Kind: message.Commit}, 3),
		"a PrepareOK":      frame(t, message.Message{Kind: message.PrepareOK, View: 1, Op: 1}, 3),
	} {
		ignores(t, s, what, f)
	}
	hears(t, s, good, "r")
	ignores(t, s, "once more", good)
	asks(t, s, "y", to(frame(t, request(1, 2, "y"), 3), 0))
	ignores(t, s, "the one ahead", good)
	hears(t, s, frame(t, reply(0, 1, 2, ""), 3), "")
	asks(t, s, "z", to(frame(t, request(1, 3, "z"), 3), 0))
	hears(t, s, frame(t, reply(0, 1, 3, strings.Repeat("r", api.MaxCommand)), 3), strings.Repeat("r", api.MaxCommand))
}

// TestView: the greatest view of the replies tells whom to ask; of what isn't the reply that is awaited, none does.
func TestView(t *testing.T) {
	for _, x := range []struct {
		most, view, known, primary int
	}{
		{1, 0, 0, 0}, {1, 1, 1, 1}, {1, 5, 5, 2}, {1, 4, 5, 2}, {1, 5, 5, 2}, {1, 6, 6, 0}, {1, 0, 6, 0},
		{2, 4, 4, 4}, {2, 3, 4, 4}, {2, 5, 5, 0}, {2, 13, 13, 3},
		{3, 6, 6, 6}, {3, 7, 7, 0}, {3, 5, 7, 0}, {3, api.MaxNumber, api.MaxNumber, 4}, {3, 8, api.MaxNumber, 4},
	} {
		n := 2*x.most + 1
		s := session.New(2, x.most)
		asks(t, s, "first", to(frame(t, request(2, 1, "first"), n), 0))
		ignores(t, s, "another's", frame(t, reply(min(x.known+1, api.MaxNumber), 1, 1, "r"), n))
		hears(t, s, frame(t, reply(x.known, 2, 1, "r"), n), "r")
		ignores(t, s, "once more, later", frame(t, reply(min(x.known+1, api.MaxNumber), 2, 1, "r"), n))
		asks(t, s, "second", to(frame(t, request(2, 2, "second"), n), x.known%n))
		hears(t, s, frame(t, reply(x.view, 2, 2, "r"), n), "r")
		asks(t, s, "third", to(frame(t, request(2, 3, "third"), n), x.primary))
	}
}

func TestTick(t *testing.T) {
	for most := 1; most <= 3; most++ {
		n := 2*most + 1
		s := session.New(0, most)
		all := []int{0, 1, 2, 3, 4, 5, 6}[:n]
		ticks(t, s, 6) // they don't count
		f := frame(t, request(0, 1, "x"), n)
		asks(t, s, "x", to(f, 0))
		for range 3 {
			ticks(t, s, 3)
			if got := s.Tick(); !slices.Equal(got, to(f, all...)) {
				t.Error(got)
			}
		}
		ticks(t, s, 3)
		hears(t, s, frame(t, reply(1, 0, 1, "r"), n), "r")
		ticks(t, s, 9)
		f = frame(t, request(0, 2, "y"), n)
		asks(t, s, "y", to(f, 1))
		ticks(t, s, 2)
		hears(t, s, frame(t, reply(1, 0, 2, "r"), n), "r")
		f = frame(t, request(0, 3, "z"), n)
		asks(t, s, "z", to(f, 1)) // and they are counted anew
		ticks(t, s, 3)
		if got := s.Tick(); !slices.Equal(got, to(f, all...)) {
			t.Error(got)
		}
	}
}

// TestKept: what is answered is new memory.
func TestKept(t *testing.T) {
	s, other := session.New(0, 1), session.New(0, 1)
	f := frame(t, request(0, 1, "x"), 3)
	first, _ := s.Ask("x")
	first[0] = replica.Out{}
	for range 2 {
		ticks(t, s, 3)
		got := s.Tick()
		if !slices.Equal(got, to(f, 0, 1, 2)) {
			t.Error(got)
		}
		clear(got)
	}
	if busy(other) != "0" {
		t.Error("sessions share what was asked")
	}
}
