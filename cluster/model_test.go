package cluster_test

import (
	"fmt"
	"math/rand/v2"
	"slices"
	"testing"

	"primer/api"
	"primer/cluster"
	"primer/message"
	"primer/network"
	"primer/replica"
	"primer/session"
)

// A model keeps all that was ever asked, told and applied, and all nonces; what holds is worked out of that each time.
type model struct {
	most     int
	replicas map[int]*replica.Replica // those that aren't crashed
	sessions []*session.Session
	net      network.Net
	steps    int
	nonces   []int
	asked    []cluster.Event
	told     []cluster.Event // Answered and Reply of a Client's Number
	applied  []replica.Applied
}

func newModel(most int) *model {
	m := &model{most: most, replicas: map[int]*replica.Replica{}}
	for id := range m.group() {
		m.replicas[id] = replica.New(id, most)
	}
	for client := range 3 {
		m.sessions = append(m.sessions, session.New(client, most))
	}
	return m
}

func (m *model) group() int {
	return 2*m.most + 1
}

func (m *model) send(from int, outs []replica.Out) {
	for _, o := range outs {
		m.net.Send(from, o.To, o.Frame)
	}
}

// work of a replica: what it sends, and what it has applied.
func (m *model) work(id int, outs []replica.Out) {
	m.send(id, outs)
	m.applied = append(m.applied, m.replicas[id].Applied()...)
}

func (m *model) missing() int {
	n := m.group()
	for _, r := range m.replicas {
		if r.Status().State != replica.Recovering {
			n--
		}
	}
	return n
}

func (m *model) deliver(i int) bool {
	f, ok := m.net.Take(i)
	if !ok {
		return false
	}
	if r := m.replicas[f.To]; r != nil {
		m.work(f.To, r.Receive(f.Bytes))
	}
	if f.To < 0 {
		s := m.sessions[-1-f.To]
		if reply, ok := s.Receive(f.Bytes); ok {
			number, _ := s.Busy()
			m.told = append(m.told, cluster.Event{Client: -1 - f.To, Number: number, Answered: m.steps, Reply: reply})
		}
	}
	return true
}

func (m *model) do(s cluster.Step) bool {
	m.steps++
	r, there := m.replicas[s.A]
	inGroup, isClient := s.A >= 0 && s.A < m.group(), s.A >= 0 && s.A < 3
	switch {
	case s.Kind == cluster.Ask && isClient:
		outs, err := m.sessions[s.A].Ask(s.Text)
		m.send(-1-s.A, outs)
		if err == api.OK {
			number, _ := m.sessions[s.A].Busy()
			m.asked = append(m.asked, cluster.Event{Client: s.A, Number: number, Text: s.Text, Asked: m.steps})
		}
		return err == api.OK
	case s.Kind == cluster.Deliver:
		return m.deliver(s.A)
	case s.Kind == cluster.Drop:
		_, ok := m.net.Take(s.A)
		return ok
	case s.Kind == cluster.Double:
		return m.net.Double(s.A)
	case s.Kind == cluster.Spoil:
		return m.net.Spoil(s.A, s.B, s.C)
	case s.Kind == cluster.Crash && there && (r.Status().State == replica.Recovering || m.missing() < m.most):
		delete(m.replicas, s.A)
		return true
	case s.Kind == cluster.Restart && inGroup && !there && s.B >= 1 && s.B <= api.MaxNumber && s.B > slices.Max(append(m.nonces, 0)):
		m.replicas[s.A] = replica.Restart(s.A, m.most, s.B)
		m.nonces = append(m.nonces, s.B)
		return true
	case s.Kind == cluster.Tick && there:
		m.work(s.A, r.Tick())
		return true
	case s.Kind == cluster.Wait && isClient:
		m.send(-1-s.A, m.sessions[s.A].Tick())
		return true
	}
	return false
}

func (m *model) rest(rounds int) {
	for k := 0; k < rounds; k++ {
		for n := m.net.Count(); n > 0; n-- {
			m.do(of(cluster.Deliver, 0))
		}
		for id := range m.group() {
			if m.replicas[id] != nil {
				m.do(of(cluster.Tick, id))
			}
		}
		for client := range 3 {
			m.do(of(cluster.Wait, client))
		}
	}
}

func (m *model) history() []cluster.Event {
	var l []cluster.Event
	for _, e := range m.asked {
		for _, x := range m.told {
			if x.Client == e.Client && x.Number == e.Number {
				e.Answered, e.Reply = x.Answered, x.Reply
			}
		}
		l = append(l, e)
	}
	return l
}

func (m *model) chronicle() []message.Entry {
	var l []message.Entry
	for {
		k := slices.IndexFunc(m.applied, func(x replica.Applied) bool { return x.Op == len(l)+1 })
		if k < 0 {
			return l
		}
		l = append(l, m.applied[k].Entry)
	}
}

// held against a cluster: what is told of both must be the same.
func (m *model) held(c *cluster.Cluster) error {
	if c.Steps() != m.steps || c.Under() != m.net.Count() || c.Down() != m.missing() {
		return fmt.Errorf("steps %d %d, under way %d %d, missing %d %d", c.Steps(), m.steps, c.Under(), m.net.Count(), c.Down(), m.missing())
	}
	for id := -1; id <= m.group(); id++ {
		r := m.replicas[id]
		if s, ok := c.Status(id); ok != (r != nil) || s != r.Status() || c.State(id) != r.State() {
			return fmt.Errorf("%d: %v %v, not %v", id, s, ok, r.Status())
		}
	}
	if l, ok := c.Chronicle(); !ok || !slices.Equal(l, m.chronicle()) {
		return fmt.Errorf("chronicle %v %v", l, ok)
	}
	if !slices.Equal(c.History(), m.history()) {
		return fmt.Errorf("history %v", c.History())
	}
	return nil
}

// someNumber that is mostly one of a few, from 0 on.
func someNumber(r *rand.Rand, few int) int {
	if r.IntN(8) == 0 {
		return []int{-1, few, few + 1, -few, 1 << 53, 1<<53 + 1, 1<<63 - 1, -1 << 63}[r.IntN(8)]
	}
	return r.IntN(few)
}

// someStep, mostly one that is done.
func someStep(r *rand.Rand, often []int, group, steps int) cluster.Step {
	s := cluster.Step{Kind: often[r.IntN(len(often))]}
	switch s.Kind {
	case cluster.Ask, cluster.Wait:
		s.A = someNumber(r, 3)
		s.Text = someText(r)
	case cluster.Crash, cluster.Restart, cluster.Tick:
		s.A, s.B = someNumber(r, group), someNumber(r, 2+steps)
		if s.B > 1<<50 && r.IntN(50) > 0 {
			s.B = steps // the greatest nonces are the last ones
		}
	default:
		s.A, s.B, s.C = someNumber(r, 40), int(r.Uint64()), r.Uint32()>>r.IntN(33)
	}
	return s
}

// TestManySteps: a cluster is held against the model.
func TestManySteps(t *testing.T) {
	r := rand.New(rand.NewPCG(281, 282))
	counts := map[string]int{}
	for k := range 200 {
		most := 1 + k%3
		c, m := cluster.New(most), newModel(most)
		var often []int
		for kind := -1; kind <= 11; kind++ {
			for range 1 + r.IntN(5) {
				often = append(often, kind)
			}
		}
		for range 20 + r.IntN(60) {
			often = append(often, []int{cluster.Deliver, cluster.Tick, cluster.Ask, cluster.Restart}[r.IntN(4)])
		}
		for n := range 400 {
			if r.IntN(60) == 0 {
				rounds := r.IntN(6) - 1
				c.Rest(rounds)
				m.rest(rounds)
			}
			s := someStep(r, often, m.group(), n)
			got, want := c.Do(s), m.do(s)
			if got != want {
				t.Fatalf("%d: %+v: %v", n, s, got)
			}
			counts[fmt.Sprint(s.Kind, want)]++
			if n%20 == 0 || n > 390 {
				if err := m.held(c); err != nil {
					t.Fatalf("%d: %+v: %v", n, s, err)
				}
			}
		}
		counts["applied"] += len(m.applied)
		counts["told"] += len(m.told)
	}
	t.Log(counts)
	for kind := cluster.Ask; kind <= cluster.Wait; kind++ {
		if counts[fmt.Sprint(kind, true)] < 200 || counts[fmt.Sprint(kind, false)] < 50 {
			t.Error("one-sided steps:", kind, counts)
		}
	}
	if counts["applied"] < 1000 || counts["told"] < 500 {
		t.Error("one-sided steps:", counts)
	}
}
