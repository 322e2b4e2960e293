package replica

import (
	"primer/api"
	"primer/message"
	"primer/oplog"
)

const keep = 8 // applied entries, with which the log is cut

// primary of a view.
func (r *Replica) primary(view int) int {
	return view % group(r.most)
}

// leads: is it a Normal primary?
func (r *Replica) leads() bool {
	return r.state == Normal && r.primary(r.view) == r.id
}

// request of a client.
func (r *Replica) request(m message.Message) {
	if !r.leads() {
		return
	}
	number, _ := r.machine.Known(m.Client)
	if number == m.Number {
		r.reply(m.Client)
		return
	}
	if number > m.Number || r.log.Last(m.Client) >= m.Number || len(r.log.Entries) >= api.MaxBatch {
		return
	}
	x := message.Entry{Client: m.Client, Number: m.Number, Text: m.Text}
	r.log = r.log.Add(x)
	r.sendAll(message.Message{Kind: message.Prepare, View: r.view, Op: r.log.Op(), Commit: r.commit, Entries: []message.Entry{x}})
}

// follow a Prepare or a Commit of a primary.
func (r *Replica) follow(m message.Message) {
	if r.state == Recovering || m.View < r.view || m.From != r.primary(m.View) {
		return
	}
	r.ticks = 0
	if m.View > r.view || r.state == Changing {
		r.ask(m)
		return
	}
	if m.Kind == message.Prepare && m.Op == r.log.Op()+1 {
		r.log = r.log.Add(m.Entries[0])
	}
	if m.Op > r.log.Op() {
		r.ask(m)
	} else {
		r.confirm()
	}
	r.apply(m.Commit)
}

// ask the sender for its log.
func (r *Replica) ask(m message.Message) {
	r.send(m.From, message.Message{Kind: message.GetState, View: m.View, Op: r.log.Op()})
}

// show the sender the log.
func (r *Replica) show(m message.Message) {
	if r.state == Normal && m.View <= r.view {
		r.send(m.From, r.tail(message.NewState))
	}
}

// confirm to the primary how much of its log is here.
func (r *Replica) confirm() {
	r.sendPrimary(message.Message{Kind: message.PrepareOK, View: r.view, Op: r.log.Op()})
}

// acknowledge how much of the log another one has.
func (r *Replica) acknowledge(m message.Message) {
	if !r.leads() || m.View != r.view || m.Op > r.log.Op() {
		return
	}
	has := r.heard.has[:group(r.most)]
	has[m.From] = max(has[m.From], m.Op)
	has[r.id] = r.log.Op()
	op := r.commit
	for count(has, func(up int) bool { return up > op }) > r.most {
		op++
	}
	r.apply(op)
}

// apply the entries up to a number, as far as the log goes.
func (r *Replica) apply(op int) {
	for r.commit < op {
		x, ok := r.log.At(r.commit + 1)
		if !ok {
			return
		}
		r.commit++
		r.machine.Apply(x)
		r.applied = append(r.applied, Applied{Op: r.commit, Entry: x})
		if r.leads() {
			r.reply(x.Client)
		}
		if r.commit == r.log.Base+keep {
			r.log, _ = r.log.Cut(r.commit, r.machine.State())
		}
	}
}

// take the log of a message; false, where its State isn't one.
func (r *Replica) take(m message.Message) bool {
	if m.Base > r.commit {
		machine, err := oplog.Restore(m.State)
		if err != api.OK {
			return false
		}
		r.machine, r.commit = machine, m.Base
	}
	r.log = r.log.Merge(oplog.Log{Base: m.Base, State: m.State, Entries: m.Entries})
	r.ticks = 0
	return true
}

// settle: it is Normal in a view.
func (r *Replica) settle(view int) {
	r.state, r.view, r.last = Normal, view, view
	r.heard = heard{}
}

// join those that are Normal in the view of a message, by its log.
func (r *Replica) join(m message.Message) bool {
	if !r.take(m) {
		return false
	}
	r.settle(m.View)
	r.apply(m.Commit)
	r.confirm()
	return true
}

// adopt a StartView or a NewState, where it tells more than is known.
func (r *Replica) adopt(m message.Message) bool {
	if r.state == Recovering || m.View < r.view {
		return true
	}
	more := r.primary(r.view) != r.id && m.Op > r.log.Op()
	if m.View > r.view || r.state == Changing || more {
		return r.join(m)
	}
	return true
}
