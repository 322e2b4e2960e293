package judge

import (
	"primer/cluster"
	"primer/oplog"
)

// most events that a history may have, for its orders are gone through.
const most = 8

// Order in which requests may have been applied, one by one.
func Order(h []cluster.Event) ([]int, bool) {
	if len(h) > most {
		return nil, false
	}
	s := search{h: h, seen: map[state]struct{}{}}
	if !s.goOn(state{}) {
		return nil, false
	}
	return s.order, true
}

// A search for an order that fits: one event is put behind the other.
type search struct {
	h     []cluster.Event
	order []int
	seen  map[state]struct{} // of which no order comes that fits
}

// A state in which an order leaves what may come behind it; another order that leaves it leads nowhere else.
type state struct {
	in      [most]bool // which events are in the order
	applied [most]int  // those of them that a machine applied, one after the other
	count   int        // of these
}

// goOn with an order that leads to a state, till all answered events are in it; false, where none of that kind fits.
func (s *search) goOn(x state) bool {
	if s.whole(x) {
		return true
	}
	if _, ok := s.seen[x]; ok {
		return false
	}
	s.seen[x] = struct{}{}
	for i := range s.h {
		y, ok := s.put(x, i)
		if !ok {
			continue
		}
		s.order = append(s.order, i)
		if s.goOn(y) {
			return true
		}
		s.order = s.order[:len(s.order)-1]
	}
	return false
}

// whole: are all answered events in the order?
func (s *search) whole(x state) bool {
	for i, e := range s.h {
		if answered(e) && !x.in[i] {
			return false
		}
	}
	return true
}

// put an event behind the order; false, where it may not stand there, or needn't: an unanswered one that a machine doesn't apply changes nothing.
func (s *search) put(x state, i int) (state, bool) {
	if x.in[i] || s.early(x, i) {
		return state{}, false
	}
	e := s.h[i]
	reply := s.machine(x).Apply(entry(e))
	if answered(e) && reply != e.Reply || !answered(e) && reply == "" {
		return state{}, false
	}
	x.in[i] = true
	if reply != "" {
		x.applied[x.count] = i
		x.count++
	}
	return x, true
}

// early: is one ahead of the event, itself perhaps, that isn't in the order yet?
func (s *search) early(x state, i int) bool {
	for k, e := range s.h {
		if !x.in[k] && ahead(e, s.h[i]) {
			return true
		}
	}
	return false
}

// machine that has applied what the order asks for: machines are not copied, so that one is made anew each time.
func (s *search) machine(x state) *oplog.Machine {
	m := oplog.New()
	for _, i := range x.applied[:x.count] {
		m.Apply(entry(s.h[i]))
	}
	return m
}
