package replica_test

import (
	"fmt"
	"strings"
	"testing"

	"primer/api"
	"primer/message"
	"primer/oplog"
	"primer/replica"
)

// at: the entry that stands at a number in the logs of these tests.
func at(op int) message.Entry {
	return message.Entry{Client: op % 3, Number: op, Text: fmt.Sprint("x", op)}
}

// from one number to another: the entries behind the first.
func from(base, op int) []message.Entry {
	var l []message.Entry
	for k := base + 1; k <= op; k++ {
		l = append(l, at(k))
	}
	return l
}

// machine to which the entries up to a number were applied.
func machine(op int) *oplog.Machine {
	m := oplog.New()
	for _, x := range from(0, op) {
		m.Apply(x)
	}
	return m
}

// state of the log up to a number.
func state(op int) string {
	if op == 0 {
		return ""
	}
	return machine(op).State()
}

// tail: a message with the log from base to op.
func tail(kind, sender, view, base, op, commit int) message.Message {
	return message.Message{Kind: kind, From: sender, View: view, Base: base, Op: op, Commit: commit, State: state(base), Entries: from(base, op)}
}

var kinds = []string{"none", "Request", "Prepare", "PrepareOK", "Reply", "Commit", "StartViewChange", "DoViewChange", "StartView", "Recovery", "RecoveryResponse", "GetState", "NewState"}

// said: a message in short; a tail's entries are told where they aren't those of these tests.
func said(m message.Message) string {
	s := kinds[m.Kind]
	add := func(name string, n int) {
		if n != 0 {
			s += fmt.Sprint(" ", name, n)
		}
	}
	add("v", m.View)
	add("last", m.Last)
	add("op", m.Op)
	add("c", m.Commit)
	add("b", m.Base)
	add("client", m.Client)
	add("number", m.Number)
	add("nonce", m.Nonce)
	add("born", m.Born)
	if m.Full {
		s += " full"
	}
	if strings.Trim(fmt.Sprint(m.Known), "[0 ]") != "" {
		s += fmt.Sprint(" knows", m.Known)
	}
	for k, x := range m.Entries {
		if m.Kind == message.Prepare {
			k = m.Op - 1
		}
		if x != at(m.Base+k+1) {
			s += fmt.Sprint(" ", x)
		}
	}
	if m.State != state(m.Base) {
		s += " another state"
	}
	if m.Kind == message.Reply {
		if _, told := machine(m.Number).Known(m.Client); told != m.Text {
			s += " another reply"
		}
	}
	return s
}

// frame of a message among n replicas; of a replica that knows of nobody when they were born, where it doesn't say.
func frame(t *testing.T, m message.Message, n int) string {
	t.Helper()
	if m.Kind != message.Request && m.Known == nil {
		m.Known = make([]int, n)
	}
	s := message.Put(m, n)
	if s == "" {
		t.Fatalf("no message: %+v", m)
	}
	return s
}

// told: what is to be sent, in order.
func told(t *testing.T, outs []replica.Out, sender, n int) string {
	t.Helper()
	var l []string
	for _, o := range outs {
		m, err := message.Get(o.Frame, n)
		if err != api.OK || m.From != sender {
			t.Fatalf("to %d: %x", o.To, o.Frame)
		}
		l = append(l, fmt.Sprint(o.To, ": ", said(m)))
	}
	return strings.Join(l, "; ")
}

// status in short.
func status(s replica.Status) string {
	return fmt.Sprintf("%s v%d op%d c%d b%d", []string{"none", "Normal", "Changing", "Recovering"}[s.State], s.View, s.Op, s.Commit, s.Base)
}

// A step of a replica: what it receives, or a Tick, where that has no Kind; what it answers; its Status behind that, where it isn't as before.
type step struct {
	in     message.Message
	outs   string
	status string
}

// go on with a replica, step by step.
func goOn(t *testing.T, what string, r *replica.Replica, id, n int, steps []step) {
	t.Helper()
	now := status(r.Status())
	for k, s := range steps {
		if s.status != "" {
			now = s.status
		}
		var outs []replica.Out
		if s.in.Kind == 0 {
			outs = r.Tick()
		} else {
			outs = r.Receive(frame(t, s.in, n))
		}
		if got := told(t, outs, id, n); got != s.outs {
			t.Errorf("%s, step %d, %s:\n%s\nnot\n%s", what, k, said(s.in), got, s.outs)
		}
		if got := status(r.Status()); got != now {
			t.Errorf("%s, step %d, %s: %s, not %s", what, k, said(s.in), got, now)
		}
	}
}

// ticks: so many of them, without an answer.
func ticks(n int) []step {
	return make([]step, n)
}

// request with the number of a log's entry.
func request(op int) message.Message {
	x := at(op)
	return message.Message{Kind: message.Request, Client: x.Client, Number: x.Number, Text: x.Text}
}

func prepare(sender, view, op, commit int) message.Message {
	return message.Message{Kind: message.Prepare, From: sender, View: view, Op: op, Commit: commit, Entries: []message.Entry{at(op)}}
}

func prepareOK(sender, view, op int) message.Message {
	return message.Message{Kind: message.PrepareOK, From: sender, View: view, Op: op}
}

func commit(sender, view, op, commit int) message.Message {
	return message.Message{Kind: message.Commit, From: sender, View: view, Op: op, Commit: commit}
}

func vote(sender, view int) message.Message {
	return message.Message{Kind: message.StartViewChange, From: sender, View: view}
}

func word(sender, view, last, base, op, commit int) message.Message {
	m := tail(message.DoViewChange, sender, view, base, op, commit)
	m.Last = last
	return m
}

func recovery(sender, born, nonce int) message.Message {
	return message.Message{Kind: message.Recovery, From: sender, Born: born, Nonce: nonce}
}

func response(sender, view, nonce int) message.Message {
	return message.Message{Kind: message.RecoveryResponse, From: sender, View: view, Nonce: nonce}
}

func full(sender, view, nonce, base, op, commit int) message.Message {
	m := tail(message.RecoveryResponse, sender, view, base, op, commit)
	m.Nonce, m.Full = nonce, true
	return m
}

func getState(sender, view, op int) message.Message {
	return message.Message{Kind: message.GetState, From: sender, View: view, Op: op}
}

func newState(sender, view, base, op, commit int) message.Message {
	return tail(message.NewState, sender, view, base, op, commit)
}

func startView(sender, view, base, op, commit int) message.Message {
	return tail(message.StartView, sender, view, base, op, commit)
}

// born: the message, of one that was restarted.
func born(nonce int, m message.Message) message.Message {
	m.Born = nonce
	return m
}

// knowing: the message of one that knows when the replicas were born.
func knowing(m message.Message, known ...int) message.Message {
	m.Known = known
	return m
}
