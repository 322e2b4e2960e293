package replica

import "primer/message"

// sent: what is to be sent by the call that goes on, which ends with it.
func (r *Replica) sent() []Out {
	l := r.outs
	r.outs = nil
	return l
}

// send a message; what has no frame, as a number in it is too great, is not sent.
func (r *Replica) send(to int, m message.Message) {
	n := group(r.most)
	m.From, m.Born, m.Known = r.id, r.known[r.id], r.known[:n]
	if f := message.Put(m, n); f != "" {
		r.outs = append(r.outs, Out{To: to, Frame: f})
	}
}

// sendAll: to all others.
func (r *Replica) sendAll(m message.Message) {
	for to := range group(r.most) {
		if to != r.id {
			r.send(to, m)
		}
	}
}

// sendPrimary: to the primary of the view, where that is another one.
func (r *Replica) sendPrimary(m message.Message) {
	if to := r.primary(r.view); to != r.id {
		r.send(to, m)
	}
}

// tail: a message with all of the log.
func (r *Replica) tail(kind int) message.Message {
	return message.Message{
		Kind: kind, View: r.view, Op: r.log.Op(), Commit: r.commit,
		Base: r.log.Base, State: r.log.State, Entries: r.log.Entries,
	}
}

// reply to a client what its last request was answered.
func (r *Replica) reply(client int) {
	number, text := r.machine.Known(client)
	r.send(-1-client, message.Message{Kind: message.Reply, View: r.view, Client: client, Number: number, Text: text})
}
