package cluster

import (
	"primer/api"
	"primer/network"
	"primer/replica"
)

// Do a step.
func (c *Cluster) Do(s Step) bool {
	if c == nil {
		return false
	}
	c.steps++
	switch s.Kind {
	case Ask:
		return c.ask(s.A, s.Text)
	case Deliver:
		return c.deliver(s.A)
	case Drop:
		_, ok := c.net.Take(s.A)
		return ok
	case Double:
		return c.net.Double(s.A)
	case Spoil:
		return c.net.Spoil(s.A, s.B, s.C)
	case Crash:
		return c.crash(s.A)
	case Restart:
		return c.restart(s.A, s.B)
	case Tick:
		return c.tick(s.A)
	case Wait:
		return c.wait(s.A)
	}
	return false
}

// Rest: so many rounds in which all comes, and time passes.
func (c *Cluster) Rest(rounds int) {
	if c == nil {
		return
	}
	for range rounds {
		for range c.net.Count() {
			c.Do(Step{Kind: Deliver})
		}
		for i, r := range c.replicas {
			if r != nil {
				c.Do(Step{Kind: Tick, A: i})
			}
		}
		for client := range c.sessions {
			c.Do(Step{Kind: Wait, A: client})
		}
	}
}

// send what a replica or a client answered; what the network has no room for is lost.
func (c *Cluster) send(from int, outs []replica.Out) {
	for _, o := range outs {
		c.net.Send(from, o.To, o.Frame)
	}
}

// does: what a replica answered is sent, and what it applied is noted at once, for it may crash next.
func (c *Cluster) does(i int, outs []replica.Out) {
	c.send(i, outs)
	for _, x := range c.there(i).Applied() {
		first, ok := c.applied[x.Op]
		if !ok {
			c.applied[x.Op] = x.Entry
		} else if first != x.Entry {
			c.differ = true
		}
	}
}

// isClient: is there such a one?
func isClient(i int) bool {
	return 0 <= i && i < api.MaxClients
}

// ask a client to ask.
func (c *Cluster) ask(i int, text string) bool {
	if !isClient(i) {
		return false
	}
	outs, err := c.sessions[i].Ask(text)
	if err != api.OK {
		return false
	}
	c.send(-1-i, outs)
	number, _ := c.sessions[i].Busy()
	c.last[i] = len(c.history)
	c.history = append(c.history, Event{Client: i, Number: number, Text: text, Asked: c.steps})
	return true
}

// deliver a frame.
func (c *Cluster) deliver(i int) bool {
	f, ok := c.net.Take(i)
	if !ok {
		return false
	}
	if f.To >= 0 {
		c.does(f.To, c.there(f.To).Receive(f.Bytes))
	} else {
		c.tell(f)
	}
	return true
}

// tell a client of a frame, which may be the reply that it awaits.
func (c *Cluster) tell(f network.Frame) {
	i := -1 - f.To
	if !isClient(i) {
		return
	}
	if reply, ok := c.sessions[i].Receive(f.Bytes); ok {
		e := &c.history[c.last[i]]
		e.Answered, e.Reply = c.steps, reply
	}
}

// crash a replica, as long as no more are missing than may be.
func (c *Cluster) crash(i int) bool {
	r := c.there(i)
	if r == nil || !recovers(r) && c.Down() >= c.most {
		return false
	}
	c.replicas[i] = nil
	return true
}

// restart a crashed replica, with a nonce that is new.
func (c *Cluster) restart(i, nonce int) bool {
	if i < 0 || i >= len(c.replicas) || c.replicas[i] != nil || nonce <= c.nonce {
		return false
	}
	r := replica.Restart(i, c.most, nonce)
	if r == nil {
		return false
	}
	c.replicas[i], c.nonce = r, nonce
	return true
}

// tick of a replica.
func (c *Cluster) tick(i int) bool {
	r := c.there(i)
	c.does(i, r.Tick())
	return r != nil
}

// wait of a client.
func (c *Cluster) wait(i int) bool {
	if !isClient(i) {
		return false
	}
	c.send(-1-i, c.sessions[i].Tick())
	return true
}
