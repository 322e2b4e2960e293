package replica

import (
	"cmp"
	"slices"

	"primer/message"
)

const patience = 8 // ticks without a word, behind which a view is left

// begin the change to a view.
func (r *Replica) begin(view int) {
	r.state, r.view, r.ticks = Changing, view, 0
	r.heard = heard{}
	r.heard.votes[r.id] = true
	r.heard.words[r.id] = r.own()
	r.sendVote()
}

// own word for the view, which stays as it is, for the log does.
func (r *Replica) own() message.Message {
	m := r.tail(message.DoViewChange)
	m.Last = r.last
	return m
}

func (r *Replica) sendVote() {
	r.sendAll(message.Message{Kind: message.StartViewChange, View: r.view})
}

// sendWord, where the votes allow it.
func (r *Replica) sendWord() {
	if r.heard.done {
		r.sendPrimary(r.heard.words[r.id])
	}
}

// changes: is the change to a view under way, now that it was heard of?
func (r *Replica) changes(view int) bool {
	if r.state != Recovering && view > r.view {
		r.begin(view)
	}
	return r.state == Changing && view == r.view
}

// vote of another one for the change to a view.
func (r *Replica) vote(m message.Message) {
	if !r.changes(m.View) {
		return
	}
	r.heard.votes[m.From] = true
	votes := count(r.heard.votes[:], func(yes bool) bool { return yes })
	if votes > r.most && !r.heard.done {
		r.heard.done = true
		r.sendWord()
	}
}

// word of another one, from which the primary of a view begins it.
func (r *Replica) word(m message.Message) bool {
	if !r.changes(m.View) || r.primary(r.view) != r.id {
		return true
	}
	r.heard.words[m.From] = m
	words := r.heard.words
	if count(words[:], told) <= r.most {
		return true
	}
	if !r.take(slices.MaxFunc(words[:], newer)) {
		return false
	}
	r.settle(r.view)
	r.sendAll(r.tail(message.StartView))
	for _, w := range words {
		r.apply(w.Commit)
	}
	return true
}

// newer: which of two words has the newer log; where there is none, it has the oldest.
func newer(a, b message.Message) int {
	return cmp.Or(cmp.Compare(a.Kind, b.Kind), cmp.Compare(a.Last, b.Last), cmp.Compare(a.Op, b.Op))
}

// help one that was restarted.
func (r *Replica) help(m message.Message) {
	if r.state != Normal || m.Nonce != m.Born {
		return
	}
	answer := message.Message{View: r.view}
	if r.leads() {
		answer = r.tail(message.RecoveryResponse)
	}
	answer.Kind, answer.Nonce, answer.Full = message.RecoveryResponse, m.Nonce, r.leads()
	r.send(m.From, answer)
}

// answer of another one, now that it was restarted itself.
func (r *Replica) answer(m message.Message) bool {
	if r.state != Recovering || m.Nonce != r.known[r.id] {
		return true
	}
	answers := &r.heard.answers
	if was := answers[m.From]; was.View > m.View || was.View == m.View && was.Full && !m.Full {
		return true
	}
	answers[m.From] = m
	if count(answers[:], told) <= r.most {
		return true
	}
	view := 0
	for _, x := range answers {
		view = max(view, x.View)
	}
	if x := answers[r.primary(view)]; x.View == view && x.Full {
		return r.join(x)
	}
	return true
}
