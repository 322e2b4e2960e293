package replica_test

import (
	"maps"
	"slices"

	"primer/api"
	"primer/message"
	"primer/oplog"
	"primer/replica"
)

// A slow replica keeps all that it heard, and goes through it, whenever it has to know what counts; its machine does all entries again.
type slow struct {
	id, n                           int
	state, view, last, commit, idle int
	log                             oplog.Log
	begun                           string          // the machine's state, behind which
	since                           []message.Entry // were applied
	known                           map[int]int     // when each was born
	rose                            map[int]int     // how much had been heard, when that was learnt
	heard                           []message.Message
	mark                            int // how much had been heard, when it came to its view or state
	done                            bool
	applied                         []replica.Applied
	outs                            []replica.Out
}

func newSlow(id, most, nonce int) *slow {
	s := &slow{id: id, n: 2*most + 1, state: replica.Normal, known: map[int]int{}, rose: map[int]int{}}
	if nonce > 0 {
		s.state, s.known[id] = replica.Recovering, nonce
	}
	return s
}

// copy of all.
func (s *slow) copy() *slow {
	c := *s
	c.since, c.heard, c.applied = slices.Clone(s.since), slices.Clone(s.heard), slices.Clone(s.applied)
	c.known, c.rose = maps.Clone(s.known), maps.Clone(s.rose)
	return &c
}

func (s *slow) machine() *oplog.Machine {
	m := oplog.New()
	if s.begun != "" {
		m, _ = oplog.Restore(s.begun)
	}
	for _, x := range s.since {
		m.Apply(x)
	}
	return m
}

func (s *slow) primary() bool {
	return s.state == replica.Normal && s.view%s.n == s.id
}

func (s *slow) send(to int, m message.Message) {
	m.From, m.Born = s.id, s.known[s.id]
	for i := range s.n {
		m.Known = append(m.Known, s.known[i])
	}
	if to != s.id {
		s.outs = append(s.outs, replica.Out{To: to, Frame: message.Put(m, s.n)})
	}
}

func (s *slow) all(m message.Message) {
	for to := range s.n {
		s.send(to, m)
	}
}

func (s *slow) tail(kind int) message.Message {
	return message.Message{Kind: kind, View: s.view, Op: s.log.Op(), Commit: s.commit, Base: s.log.Base, State: s.log.State, Entries: s.log.Entries}
}

func (s *slow) word() message.Message {
	m := s.tail(message.DoViewChange)
	m.Last, m.From = s.last, s.id
	return m
}

func (s *slow) reply(x message.Entry) {
	_, text := s.machine().Known(x.Client)
	s.send(-1-x.Client, message.Message{Kind: message.Reply, View: s.view, Client: x.Client, Number: x.Number, Text: text})
}

func (s *slow) change(view int) {
	s.state, s.view, s.idle, s.done, s.mark = replica.Changing, view, 0, false, len(s.heard)
	s.all(message.Message{Kind: message.StartViewChange, View: view})
}

// those of a kind that count: heard since the mark, of the view, not ahead of what was learnt of who sent it.
func (s *slow) those(kind int) map[int][]message.Message {
	l := map[int][]message.Message{}
	for k := s.mark; k < len(s.heard); k++ {
		m := s.heard[k]
		if m.Kind == kind && k >= s.rose[m.From] && (m.View == s.view || kind == message.RecoveryResponse) {
			l[m.From] = append(l[m.From], m)
		}
	}
	return l
}

func (s *slow) commitTo(op int) {
	for s.commit < min(op, s.log.Op()) {
		s.commit++
		x, _ := s.log.At(s.commit)
		s.since = append(s.since, x)
		s.applied = append(s.applied, replica.Applied{Op: s.commit, Entry: x})
		if s.primary() {
			s.reply(x)
		}
		if s.commit-s.log.Base == 8 {
			s.log, _ = s.log.Cut(s.commit, s.machine().State())
		}
	}
}

// take a log, where its State is one, and be Normal in the view.
func (s *slow) take(m message.Message) bool {
	if m.Base > s.commit {
		if _, err := oplog.Restore(m.State); err != api.OK {
			return false
		}
		s.begun, s.since, s.commit = m.State, nil, m.Base
	}
	s.log = s.log.Merge(oplog.Log{Base: m.Base, State: m.State, Entries: m.Entries})
	if m.View > s.view || s.state != replica.Normal {
		s.mark = len(s.heard)
	}
	s.idle, s.state, s.view, s.last = 0, replica.Normal, m.View, m.View
	return true
}

func (s *slow) takeAll(m message.Message) bool {
	if !s.take(m) {
		return false
	}
	s.commitTo(m.Commit)
	s.send(s.view%s.n, message.Message{Kind: message.PrepareOK, View: s.view, Op: s.log.Op()})
	return true
}

func (s *slow) receive(m message.Message) {
	was := s.copy()
	if m.Kind != message.Request {
		if m.From == s.id || m.Born < s.known[m.From] {
			return
		}
		known := slices.Clone(m.Known)
		known[m.From] = max(known[m.From], m.Born)
		for i, born := range known {
			if i != s.id && born > s.known[i] {
				s.known[i], s.rose[i] = born, len(s.heard)
			}
		}
	}
	if !s.hear(m) {
		*s = *was
	}
}

// hear a message, in the state that it is in.
func (s *slow) hear(m message.Message) bool {
	if s.state == replica.Recovering {
		return m.Kind != message.RecoveryResponse || m.Nonce != s.known[s.id] || s.recover(m)
	}
	switch m.Kind {
	case message.StartViewChange, message.DoViewChange:
		if m.View > s.view {
			s.change(m.View)
		}
		if m.View != s.view || s.state != replica.Changing {
			return true
		}
		s.heard = append(s.heard, m)
		if m.Kind == message.DoViewChange {
			return s.view%s.n != s.id || s.begin()
		}
		if !s.done && len(s.those(message.StartViewChange))+1 > s.n/2 {
			s.done = true
			s.send(s.view%s.n, s.word())
		}
	case message.StartView, message.NewState:
		same := m.View == s.view
		if m.View > s.view || same && s.state == replica.Changing || same && !s.primary() && m.Op > s.log.Op() {
			return s.takeAll(m)
		}
	case message.Prepare, message.Commit:
		s.follow(m)
	}
	if s.state == replica.Normal {
		s.serve(m)
	}
	return true
}

// follow the primary of a view.
func (s *slow) follow(m message.Message) {
	if m.From != m.View%s.n || m.View < s.view {
		return
	}
	s.idle = 0
	get := message.Message{Kind: message.GetState, View: m.View, Op: s.log.Op()}
	if m.View > s.view || s.state == replica.Changing {
		s.send(m.From, get)
		return
	}
	if m.Kind == message.Prepare && m.Op == s.log.Op()+1 {
		s.log = s.log.Add(m.Entries[0])
	}
	if m.Op > s.log.Op() {
		s.send(m.From, get)
	} else {
		s.send(m.From, message.Message{Kind: message.PrepareOK, View: s.view, Op: s.log.Op()})
	}
	s.commitTo(m.Commit)
}

// serve others, as one that is Normal.
func (s *slow) serve(m message.Message) {
	switch m.Kind {
	case message.GetState:
		if m.View <= s.view {
			s.send(m.From, s.tail(message.NewState))
		}
	case message.Recovery:
		if m.Nonce != m.Born {
			return
		}
		x := message.Message{Kind: message.RecoveryResponse, View: s.view}
		if s.primary() {
			x = s.tail(message.RecoveryResponse)
			x.Full = true
		}
		x.Nonce = m.Nonce
		s.send(m.From, x)
	case message.Request:
		x := message.Entry{Client: m.Client, Number: m.Number, Text: m.Text}
		number, _ := s.machine().Known(m.Client)
		switch {
		case !s.primary() || number > m.Number:
		case number == m.Number:
			s.reply(x)
		case s.log.Last(m.Client) < m.Number && len(s.log.Entries) < api.MaxBatch:
			s.log = s.log.Add(x)
			s.all(message.Message{Kind: message.Prepare, View: s.view, Op: s.log.Op(), Commit: s.commit, Entries: []message.Entry{x}})
		}
	case message.PrepareOK:
		if !s.primary() || m.View != s.view || m.Op > s.log.Op() {
			return
		}
		s.heard = append(s.heard, m)
		have := []int{s.log.Op()}
		for _, l := range s.those(message.PrepareOK) {
			most := 0
			for _, m := range l {
				most = max(most, m.Op)
			}
			have = append(have, most)
		}
		slices.Sort(have)
		if k := len(have) - 1 - s.n/2; k >= 0 {
			s.commitTo(have[k])
		}
	}
}

// begin the view, where there are words enough.
func (s *slow) begin() bool {
	words := []message.Message{s.word()}
	for _, l := range s.those(message.DoViewChange) {
		words = append(words, l[len(l)-1])
	}
	if len(words) <= s.n/2 {
		return true
	}
	best, commit := words[0], 0
	for _, w := range words {
		if w.Last > best.Last || w.Last == best.Last && (w.Op > best.Op || w.Op == best.Op && w.From < best.From) {
			best = w
		}
		commit = max(commit, w.Commit)
	}
	best.View = s.view
	if !s.take(best) {
		return false
	}
	s.all(s.tail(message.StartView))
	s.commitTo(commit)
	return true
}

// recover, where there are answers enough.
func (s *slow) recover(m message.Message) bool {
	s.heard = append(s.heard, m)
	answers, view := map[int]message.Message{}, 0
	for i, l := range s.those(message.RecoveryResponse) {
		for _, m := range l {
			was := answers[i]
			if was.Kind == 0 || was.View < m.View || was.View == m.View && (m.Full || !was.Full) {
				answers[i] = m
			}
		}
		view = max(view, answers[i].View)
	}
	if x := answers[view%s.n]; len(answers) > s.n/2 && x.View == view && x.Full {
		return s.takeAll(x)
	}
	return true
}

func (s *slow) tick() {
	s.idle++
	switch {
	case s.primary():
		s.all(message.Message{Kind: message.Commit, View: s.view, Op: s.log.Op(), Commit: s.commit})
	case s.state == replica.Recovering:
		s.all(message.Message{Kind: message.Recovery, Nonce: s.known[s.id]})
	case s.idle >= 8:
		s.change(s.view + 1)
	case s.state == replica.Changing:
		s.all(message.Message{Kind: message.StartViewChange, View: s.view})
		if s.done {
			s.send(s.view%s.n, s.word())
		}
	}
}
