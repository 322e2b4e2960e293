package replica_test

import (
	"fmt"
	"math/rand/v2"
	"slices"
	"testing"

	"primer/api"
	"primer/message"
	"primer/replica"
)

// states of the logs of these tests, that are made once.
func someStates(n int) []string {
	var l []string
	for op := range n {
		l = append(l, state(op))
	}
	return l
}

// near a number: it, or one beside it, not below 0.
func near(r *rand.Rand, n int) int {
	return max(0, n+[]int{0, 0, 0, 0, 1, 1, -1, 2, r.IntN(9) - 4}[r.IntN(9)])
}

// someMessage that a replica of n may hear, who is in that status.
func someMessage(r *rand.Rand, id, n int, s replica.Status, nonce int, states []string) message.Message {
	m := message.Message{Kind: 1 + r.IntN(12), From: r.IntN(n)}
	view := near(r, s.View)
	if s.State == replica.Recovering {
		m.Kind = []int{m.Kind, message.RecoveryResponse}[min(1, r.IntN(4))]
		view = r.IntN(3)
	}
	op := max(1, near(r, s.Op))
	known := make([]int, n)
	if r.IntN(8) == 0 {
		known[r.IntN(n)] = r.IntN(4)
	}
	if r.IntN(4) == 0 {
		m.From = view % n
	}
	born := max(0, r.IntN(10)-6)
	switch m.Kind {
	case message.Request:
		x := at(op + r.IntN(2))
		return message.Message{Kind: message.Request, Client: x.Client, Number: x.Number, Text: x.Text}
	case message.Prepare:
		m = prepare(m.From, view, op, r.IntN(op+1))
	case message.Commit:
		m = commit(m.From, view, op, r.IntN(op+1))
	case message.PrepareOK, message.GetState:
		m.View, m.Op = view, op
	case message.Reply:
		m.Number = 1
	case message.StartViewChange:
		m.View = view
	case message.Recovery:
		m.Nonce = max(1, born+r.IntN(4)/3)
	case message.RecoveryResponse:
		m.View, m.Nonce = view, max(1, nonce+r.IntN(8)/7)
	}
	if m.Full = m.Kind == message.RecoveryResponse && (m.From == view%n) != (r.IntN(8) == 0); m.Full || m.Kind == message.DoViewChange || m.Kind == message.StartView || m.Kind == message.NewState {
		m.View = view
		m = someTail(r, m, op, s, states)
	}
	m.Known, m.Born = known, born
	return m
}

// someTail of a message, of a log that holds what is applied.
func someTail(r *rand.Rand, m message.Message, op int, s replica.Status, states []string) message.Message {
	m.Op = max(op, s.Commit)
	m.Base = min(m.Op, []int{0, s.Base, near(r, s.Base), s.Commit, s.Commit + r.IntN(3)}[r.IntN(5)])
	m.Commit = m.Base + r.IntN(m.Op-m.Base+1)
	m.State, m.Entries = states[m.Base], from(m.Base, m.Op)
	if m.Base > 0 && r.IntN(10) == 0 {
		m.State = "wrong"
	}
	if k := len(m.Entries) - 1; m.Op > s.Commit && k >= 0 && r.IntN(4) == 0 {
		m.Entries[k].Text = fmt.Sprint("other", r.IntN(3))
	}
	if m.Kind == message.DoViewChange {
		m.Last = r.IntN(min(m.View, 2) + 1)
	}
	return m
}

// looks: all that is told of a replica.
func looks(s replica.Status, base int, entries []message.Entry, logState, machine string, applied []replica.Applied) string {
	return fmt.Sprintf("%v %d %v %x %x %v", s, base, slices.Concat(entries), logState, machine, slices.Concat(applied))
}

// TestManyMessages: a replica does as a slow one does that keeps all it heard.
func TestManyMessages(t *testing.T) {
	r := rand.New(rand.NewPCG(253, 254))
	states, counts := someStates(70), map[string]int{}
	for range 2000 {
		most := 1 + r.IntN(2)
		n := 2*most + 1
		id, nonce := r.IntN(n), max(0, r.IntN(5)-3)
		a, b := replica.New(id, most), newSlow(id, most, nonce)
		if nonce > 0 {
			a = replica.Restart(id, most, nonce)
		}
		for range 60 {
			now := a.Status()
			var outs []replica.Out
			what := fmt.Sprint("Tick of state ", now.State)
			if now.View%n == id {
				what += " primary"
			}
			if r.IntN(8) == 0 {
				outs = a.Tick()
				b.tick()
			} else {
				m := someMessage(r, id, n, now, nonce, states)
				f := message.Put(m, n)
				if m.Op-m.Base > api.MaxBatch || f == "" {
					continue
				}
				what = fmt.Sprint(said(m), " by ", m.From, " in ", what[8:])
				outs = a.Receive(f)
				b.receive(m)
			}
			if got, want := told(t, outs, id, n), told(t, b.outs, id, n); got != want {
				t.Fatalf("%d of %d, %v, %s:\n%s\nnot\n%s", id, n, now, what, got, want)
			}
			if !slices.Equal(outs, b.outs) {
				t.Fatal("other frames")
			}
			b.outs = nil
			l := a.Log()
			got := looks(a.Status(), l.Base, l.Entries, l.State, a.State(), a.Applied())
			want := looks(replica.Status{State: b.state, View: b.view, Op: b.log.Op(), Commit: b.commit, Base: b.log.Base}, b.log.Base, b.log.Entries, b.log.State, b.machine().State(), b.applied)
			if got != want {
				t.Fatalf("%d of %d, %s:\n%s\nnot\n%s", id, n, what, got, want)
			}
			b.applied = nil
			for _, o := range outs {
				m, _ := message.Get(o.Frame, n)
				counts[kinds[m.Kind]]++
			}
			counts[fmt.Sprint(now.State, a.Status().State)]++
		}
	}
	t.Log(counts)
	for _, what := range append(kinds[2:], "1 1", "1 2", "2 1", "2 2", "3 1", "3 3") {
		if counts[what] < 200 {
			t.Error("one-sided messages:", what, counts[what])
		}
	}
}

// wildMessage of numbers that go together, but with nothing that was told before.
func wildMessage(r *rand.Rand, n int, states []string) message.Message {
	number := func(least int) int {
		return max(least, []int{0, 1, 2, 3, 9, api.MaxNumber - 1, api.MaxNumber}[r.IntN(7)])
	}
	m := message.Message{Kind: 1 + r.IntN(12), From: r.IntN(n), Born: r.IntN(3) / 2 * number(0), View: number(0)}
	for range n {
		m.Known = append(m.Known, r.IntN(9)/8*number(0))
	}
	switch m.Kind {
	case message.Request, message.Reply:
		m.Client, m.Number, m.Text = r.IntN(3), number(1), someText(r)
	case message.Prepare, message.PrepareOK, message.Commit, message.GetState:
		m.Op = number(1)
	case message.Recovery, message.RecoveryResponse:
		m.Nonce = []int{max(1, m.Born), 7}[r.IntN(2)]
		m.Full = m.Kind == message.RecoveryResponse && r.IntN(2) == 0
	}
	switch m.Kind {
	case message.Request:
		m.From, m.Born, m.Known, m.View = 0, 0, nil, 0
	case message.Prepare:
		m.Commit, m.Entries = min(m.Op, number(0)), from(0, 1)
	case message.Commit:
		m.Commit = min(m.Op, number(0))
	case message.Recovery:
		m.View = 0
	case message.DoViewChange:
		m.Last = min(m.View, number(0))
	}
	if m.Full || m.Kind == message.DoViewChange || m.Kind == message.StartView || m.Kind == message.NewState {
		m.Op = number(0)
		m.Base = max(0, m.Op-r.IntN(65))
		m.Commit = m.Base + r.IntN(m.Op-m.Base+1)
		m.State = []string{"", states[r.IntN(len(states))]}[min(1, m.Base)]
		for k := range m.Op - m.Base {
			m.Entries = append(m.Entries, message.Entry{Client: r.IntN(3), Number: 1 + r.IntN(40), Text: fmt.Sprint(k)})
		}
	}
	return m
}

// TestWildMessages: whatever comes, what is answered are messages of that replica to others, and a machine's bytes and a log are there.
func TestWildMessages(t *testing.T) {
	r := rand.New(rand.NewPCG(255, 256))
	states, counts := someStates(10), map[string]int{}
	for range 1500 {
		most := 1 + r.IntN(3)
		n := 2*most + 1
		id := r.IntN(n)
		a := replica.New(id, most)
		if r.IntN(3) == 0 {
			a = replica.Restart(id, most, 7)
		}
		for range 40 {
			outs := a.Tick()
			if r.IntN(4) > 0 {
				f := message.Put(wildMessage(r, n, states), n)
				if f == "" {
					t.Fatal("no message")
				}
				outs = a.Receive(f)
			}
			for _, o := range outs {
				m, err := message.Get(o.Frame, n)
				if err != api.OK || m.From != id || o.To == id || o.To >= n || o.To < -api.MaxClients || (o.To < 0) != (m.Kind == message.Reply) {
					t.Fatalf("%d to %d: %+v", id, o.To, m)
				}
				counts[kinds[m.Kind]]++
			}
			s, l := a.Status(), a.Log()
			if s.Op != l.Op() || s.Base != l.Base || s.Commit < s.Base || s.Commit-s.Base >= 8 || a.State() == "" {
				t.Fatal(s, l)
			}
		}
	}
	t.Log(counts)
	for _, what := range kinds[2:] {
		if counts[what] < 30 {
			t.Error("one-sided messages:", what, counts[what])
		}
	}
}
