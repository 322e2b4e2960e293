package replica

import (
	"primer/api"
	"primer/message"
)

// heard: what was heard of each replica in this view, as long as it counts; its own stands among it.
type heard struct {
	votes   [api.MaxReplicas]bool            // is it for the change to the view?
	words   [api.MaxReplicas]message.Message // its DoViewChange; zero, where there is none
	answers [api.MaxReplicas]message.Message // its RecoveryResponse, likewise
	has     [api.MaxReplicas]int             // up to where it has the primary's log
	done    bool                             // did f + 1 votes stand there once?
}

// count of how many something holds.
func count[T any](l []T, holds func(T) bool) int {
	n := 0
	for _, x := range l {
		if holds(x) {
			n++
		}
	}
	return n
}

// told: is there such a message?
func told(m message.Message) bool {
	return m.Kind != 0
}

// late: is it a replica's own message, or of one that was restarted since?
func (r *Replica) late(m message.Message) bool {
	return m.Kind != message.Request && (m.From == r.id || m.Born < r.known[m.From])
}

// learn of a message when the others were born; what was heard of them before they were doesn't count any more.
func (r *Replica) learn(m message.Message) {
	for i, born := range m.Known {
		if i == m.From {
			born = max(born, m.Born)
		}
		if i == r.id || born <= r.known[i] {
			continue
		}
		r.known[i] = born
		r.heard.votes[i], r.heard.has[i] = false, 0
		r.heard.words[i], r.heard.answers[i] = message.Message{}, message.Message{}
	}
}

// hear a message; false, where it would take a log whose State isn't one.
func (r *Replica) hear(m message.Message) bool {
	switch m.Kind {
	case message.Request:
		r.request(m)
	case message.Prepare, message.Commit:
		r.follow(m)
	case message.PrepareOK:
		r.acknowledge(m)
	case message.StartViewChange:
		r.vote(m)
	case message.DoViewChange:
		return r.word(m)
	case message.StartView, message.NewState:
		return r.adopt(m)
	case message.Recovery:
		r.help(m)
	case message.RecoveryResponse:
		return r.answer(m)
	case message.GetState:
		r.show(m)
	}
	return true
}
