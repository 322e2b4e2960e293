package session_test

import (
	"fmt"
	"math/rand/v2"
	"slices"
	"testing"

	"primer/api"
	"primer/message"
	"primer/network"
	"primer/replica"
	"primer/session"
)

// A diary keeps all that happened, line by line; what holds is worked out of the lines each time.
type diary struct {
	client, replicas int
	lines            []line
}

// A line tells that a request was sent first, that its reply came, or that time passed.
type line struct {
	what, text string
	view       int
}

// since the last line of a kind: how many of another there are, all where there is none of the first.
func (d *diary) since(last, what string) int {
	n := 0
	for _, x := range d.lines {
		if x.what == last {
			n = 0
		}
		if x.what == what {
			n++
		}
	}
	return n
}

func (d *diary) number() int {
	return d.since("never", "asked")
}

func (d *diary) waits() bool {
	return d.number() > d.since("never", "told")
}

func (d *diary) view() int {
	v := 0
	for _, x := range d.lines {
		v = max(v, x.view)
	}
	return v
}

func (d *diary) request() string {
	for _, x := range slices.Backward(d.lines) {
		if x.what == "asked" {
			return message.Put(request(d.client, d.number(), x.text), d.replicas)
		}
	}
	return ""
}

func (d *diary) ask(text string) ([]replica.Out, api.Errno) {
	if d.waits() {
		return nil, api.ErrState
	}
	if len(text) > 8192 {
		return nil, api.ErrLong
	}
	d.lines = append(d.lines, line{what: "asked", text: text})
	return []replica.Out{{To: d.view() % d.replicas, Frame: d.request()}}, api.OK
}

func (d *diary) receive(m message.Message) (string, bool) {
	if m.Kind != message.Reply || m.Client != d.client || m.Number != d.number() || !d.waits() {
		return "", false
	}
	d.lines = append(d.lines, line{what: "told", view: m.View})
	return m.Text, true
}

func (d *diary) tick() []replica.Out {
	d.lines = append(d.lines, line{what: "time"})
	if !d.waits() || d.since("asked", "time")%4 != 0 {
		return nil
	}
	var l []replica.Out
	for to := range d.replicas {
		l = append(l, replica.Out{To: to, Frame: d.request()})
	}
	return l
}

// someMessage that comes to a client whose last request has this number: mostly its reply.
func someMessage(r *rand.Rand, client, number int) message.Message {
	view := r.IntN(30)
	if r.IntN(6) == 0 {
		client = r.IntN(api.MaxClients)
	}
	if r.IntN(4) == 0 {
		number += r.IntN(3) - 1
	}
	number = max(number, 1)
	switch r.IntN(10) {
	case 0:
		return request(client, number, "x")
	case 1:
		return message.Message{Kind: message.PrepareOK, View: view, Op: number}
	}
	return reply(view, client, number, fmt.Sprint("r", r.IntN(100)))
}

// TestManyCalls: a session is held against the diary.
func TestManyCalls(t *testing.T) {
	r := rand.New(rand.NewPCG(263, 264))
	counts := map[string]int{}
	for k := range 300 {
		client, most := r.IntN(api.MaxClients), 1+k%3
		s, d := session.New(client, most), &diary{client: client, replicas: 2*most + 1}
		often := 1 + r.IntN(6)
		for range 120 {
			var got, want []replica.Out
			var told, tell string
			var ok, yes bool
			what := "tick"
			switch c := r.IntN(3 + often); c {
			case 0:
				what = "ask"
				text := fmt.Sprint("x", r.IntN(9))
				if r.IntN(6) == 0 {
					text = string(make([]byte, api.MaxCommand+r.IntN(2)))
				}
				var err, wrong api.Errno
				got, err = s.Ask(text)
				want, wrong = d.ask(text)
				ok, yes = err == wrong, true
				what += fmt.Sprint(wrong)
			case 1, 2:
				m := someMessage(r, client, d.number())
				f := frame(t, m, d.replicas)
				told, ok = s.Receive(f)
				tell, yes = d.receive(m)
				what = fmt.Sprint("receive ", yes)
			default:
				got, want = s.Tick(), d.tick()
				what = fmt.Sprint("tick ", len(want) > 0)
			}
			counts[what]++
			number, waits := s.Busy()
			if !slices.Equal(got, want) || told != tell || ok != yes || number != d.number() || waits != d.waits() {
				t.Fatal(what, got, want, told, tell, ok, yes, number, waits, d.lines)
			}
		}
	}
	t.Log(counts)
	for _, what := range []string{"ask0", "ask6", "ask16", "receive true", "receive false", "tick true", "tick false"} {
		if counts[what] < 200 {
			t.Error("one-sided calls:", what, counts[what])
		}
	}
}

// A world of three layers: replicas, the clients' sessions, and the network between them.
type world struct {
	replicas []*replica.Replica // nil, where one is gone
	sessions []*session.Session
	net      network.Net
	answers  int
}

func newWorld(most int) *world {
	w := &world{}
	for id := range 2*most + 1 {
		w.replicas = append(w.replicas, replica.New(id, most))
	}
	for client := range api.MaxClients {
		w.sessions = append(w.sessions, session.New(client, most))
	}
	return w
}

func (w *world) send(from int, outs []replica.Out) {
	for _, o := range outs {
		w.net.Send(from, o.To, o.Frame)
	}
}

// round: all that is under way comes, then time passes.
func (w *world) round() {
	for range w.net.Count() {
		f, _ := w.net.Take(0)
		if f.To < 0 {
			if _, ok := w.sessions[-1-f.To].Receive(f.Bytes); ok {
				w.answers++
			}
		} else if w.replicas[f.To] != nil {
			w.send(f.To, w.replicas[f.To].Receive(f.Bytes))
		}
	}
	for id, r := range w.replicas {
		w.send(id, r.Tick())
	}
	for client, s := range w.sessions {
		w.send(-1-client, s.Tick())
	}
}

// meddle with what is under way.
func (w *world) meddle(r *rand.Rand) {
	for range r.IntN(6) {
		i := r.Int()
		switch r.IntN(3) {
		case 0:
			w.net.Take(i)
		case 1:
			w.net.Double(i)
		case 2:
			w.net.Spoil(i, r.Int(), r.Uint32())
		}
	}
}

// TestManyWorlds: sessions ask on, and each request is answered, also where one replica, or as many as may be, is gone.
func TestManyWorlds(t *testing.T) {
	r := rand.New(rand.NewPCG(265, 266))
	for k := range 30 {
		most := 1 + k%3
		w, asked := newWorld(most), 0
		for n := range 120 {
			for client, s := range w.sessions {
				if outs, err := s.Ask(fmt.Sprint("x", n)); err == api.OK {
					w.send(-1-client, outs)
					asked++
				}
			}
			if n == 20 {
				for id := range most {
					w.replicas[id] = nil
				}
			}
			w.round()
			w.meddle(r)
		}
		for range 16 * (2*most + 5) {
			w.round()
		}
		for client, s := range w.sessions {
			if n, waits := s.Busy(); waits || n < 5 {
				t.Error(k, client, n, waits)
			}
		}
		if w.answers != asked {
			t.Error(k, w.answers, asked)
		}
	}
}
