package replica_test

import (
	"math/rand/v2"
	"slices"
	"testing"

	"primer/api"
	"primer/command"
	"primer/message"
	"primer/oplog"
	"primer/replica"
)

// A packet is a frame under way.
type packet struct {
	to    int
	frame string
}

// A client asks one thing at a time.
type client struct {
	number, view, waited int
	text                 string // of the request that isn't answered; none, where all are
	step                 int    // at which it was asked
}

// An answered request: when it was asked and answered, and the reply.
type answered struct {
	entry        message.Entry
	asked, given int
	reply        string
}

// A world of replicas, where frames are lost, doubled, spoilt and late.
type world struct {
	t        *testing.T
	r        *rand.Rand
	most     int
	replicas []*replica.Replica // nil, where one is crashed
	clients  [api.MaxClients]client
	packets  []packet
	nonce    int
	steps    int
	applied  []message.Entry // by their numbers
	answered []answered
	counts   map[string]int
}

func newWorld(t *testing.T, r *rand.Rand, most int, counts map[string]int) *world {
	w := &world{t: t, r: r, most: most, counts: counts}
	for id := range 2*most + 1 {
		w.replicas = append(w.replicas, replica.New(id, most))
	}
	return w
}

// put under way what a replica answered, and look at what it applied.
func (w *world) put(id int, outs []replica.Out) {
	for _, o := range outs {
		m, err := message.Get(o.Frame, len(w.replicas))
		if err != api.OK || m.From != id || o.To == id || o.To >= len(w.replicas) || o.To < -api.MaxClients || (o.To < 0) != (m.Kind == message.Reply) {
			w.t.Fatalf("%d to %d: %+v", id, o.To, m)
		}
		w.counts[kinds[m.Kind]]++
		if len(w.packets) < 1024 {
			w.packets = append(w.packets, packet{o.To, o.Frame})
		}
	}
	for _, x := range w.replicas[id].Applied() {
		for x.Op > len(w.applied)+1 {
			w.t.Fatal("applied far ahead", id, x)
		}
		if x.Op == len(w.applied)+1 {
			w.applied = append(w.applied, x.Entry)
		} else if w.applied[x.Op-1] != x.Entry {
			w.t.Fatal("applied another", id, x, w.applied[x.Op-1])
		}
	}
}

// missing: how many are crashed or recover.
func (w *world) missing() int {
	n := 0
	for _, r := range w.replicas {
		if r == nil || r.Status().State == replica.Recovering {
			n++
		}
	}
	return n
}

func (w *world) deliver(k int) {
	p := w.packets[k]
	w.packets = slices.Delete(w.packets, k, k+1)
	if p.to < 0 {
		w.answer(-1-p.to, p.frame)
	} else if r := w.replicas[p.to]; r != nil {
		w.put(p.to, r.Receive(p.frame))
	}
}

// answer comes to a client.
func (w *world) answer(k int, frame string) {
	m, err := message.Get(frame, len(w.replicas))
	c := &w.clients[k]
	if err != api.OK || m.Kind != message.Reply || m.Client != k || m.Number != c.number || c.text == "" {
		return
	}
	w.answered = append(w.answered, answered{message.Entry{Client: k, Number: m.Number, Text: c.text}, c.step, w.steps, m.Text})
	c.view, c.text = max(c.view, m.View), ""
}

func (w *world) request(k, to int) {
	c := w.clients[k]
	f := message.Put(message.Message{Kind: message.Request, Client: k, Number: c.number, Text: c.text}, len(w.replicas))
	if len(w.packets) < 1024 {
		w.packets = append(w.packets, packet{to, f})
	}
}

// ask, where all was answered.
func (w *world) ask(k int) {
	c := &w.clients[k]
	if c.text != "" {
		return
	}
	c.number, c.step, c.waited = c.number+1, w.steps, 0
	c.text = someText(w.r)
	w.request(k, c.view%len(w.replicas))
}

// wait of a client: its request goes out again now and then.
func (w *world) wait(k int) {
	c := &w.clients[k]
	if c.text == "" {
		return
	}
	if c.waited++; c.waited%4 == 0 {
		for to := range w.replicas {
			w.request(k, to)
		}
	}
}

func (w *world) tick(id int) {
	if r := w.replicas[id]; r != nil {
		w.put(id, r.Tick())
	}
}

// crash one, as long as there are enough, or restart it.
func (w *world) crash(id int) {
	if w.replicas[id] == nil {
		w.nonce++
		w.replicas[id] = replica.Restart(id, w.most, w.nonce)
		w.counts["restarts"]++
		return
	}
	if w.replicas[id].Status().State == replica.Recovering || w.missing() < w.most {
		w.replicas[id] = nil
		w.counts["crashes"]++
	}
}

// spoil a byte or a few of a frame.
func (w *world) spoil(k int) {
	b := []byte(w.packets[k].frame)
	at := w.r.IntN(len(b))
	b[at] ^= byte(1 + w.r.IntN(255))
	w.packets[k].frame = string(b)
}

// step of a world: how often each thing happens is the world's own.
func (w *world) step(often []int) {
	w.steps++
	sum := 0
	for _, n := range often {
		sum += n
	}
	k, what := w.r.IntN(sum), 0
	for k >= often[what] {
		k -= often[what]
		what++
	}
	id, who := w.r.IntN(len(w.replicas)), w.r.IntN(api.MaxClients)
	switch what {
	case 0:
		w.ask(who)
	case 1:
		w.wait(who)
	case 2:
		w.tick(id)
	case 3:
		w.crash(id)
	}
	if len(w.packets) == 0 {
		return
	}
	p := w.r.IntN(len(w.packets))
	switch what {
	case 4:
		w.deliver(p)
	case 5:
		w.deliver(0)
	case 6:
		w.packets = slices.Delete(w.packets, p, p+1)
	case 7:
		if len(w.packets) < 1024 {
			w.packets = append(w.packets, w.packets[p])
		}
	case 8:
		w.spoil(p)
	}
}

// rest: frames come and time passes, till all is answered; false, where it isn't within the rounds that are promised.
func (w *world) rest() bool {
	for range 16 * (2*w.most + 5) {
		for range len(w.packets) {
			w.steps++
			w.deliver(0)
		}
		for id := range w.replicas {
			w.tick(id)
		}
		busy := false
		for k := range w.clients {
			w.wait(k)
			busy = busy || w.clients[k].text != ""
		}
		if !busy {
			return true
		}
		w.counts["rounds"]++
	}
	return false
}

// look whether what was told is what one machine answers.
func (w *world) look() {
	m := oplog.New()
	place := map[message.Entry]int{}
	replies := map[message.Entry]string{}
	last := map[int]int{}
	for k, x := range w.applied {
		if x.Number <= last[x.Client] {
			w.t.Fatal("twice", x)
		}
		last[x.Client] = x.Number
		place[x], replies[x] = k+1, m.Apply(x)
	}
	for _, a := range w.answered {
		if place[a.entry] == 0 || replies[a.entry] != a.reply {
			w.t.Fatalf("%v: %x, not %x", a.entry, a.reply, replies[a.entry])
		}
		for _, b := range w.answered {
			if a.given < b.asked && place[a.entry] >= place[b.entry] {
				w.t.Fatal("the wrong way round:", a.entry, b.entry)
			}
		}
	}
	for _, r := range w.replicas {
		if s := r.Status(); r != nil && s.State == replica.Normal && s.Commit == len(w.applied) && r.State() != m.State() {
			w.t.Fatal("another state")
		}
	}
}

// someText of a command, or of none.
func someText(r *rand.Rand) string {
	name := []string{"a", "b", "c"}[r.IntN(3)]
	c := command.Command{Kind: command.Enrol, Who: "a", Name: name, Nums: [4]int{1 + r.IntN(2)}}
	switch r.IntN(4) {
	case 0:
		return "no command"
	case 1:
		c = command.Command{Kind: command.Edit, Who: name, Text: "s:'x'|;"}
	case 2:
		c = command.Command{Kind: command.Show, Who: name}
	}
	return command.Put(c)
}

// TestManyWorlds: whatever frames come, all replicas apply the same entries, clients are told what one machine answers, and all is answered in the end.
func TestManyWorlds(t *testing.T) {
	r := rand.New(rand.NewPCG(251, 252))
	counts := map[string]int{}
	for k := range 250 {
		w := newWorld(t, r, 1+k%3, counts)
		often := []int{20 + r.IntN(40), r.IntN(60), r.IntN(150), r.IntN(30), r.IntN(400), r.IntN(400), r.IntN(60), r.IntN(40), r.IntN(20)}
		for range 1500 {
			w.step(often)
		}
		w.look()
		if !w.rest() {
			t.Fatal("not answered", k, w.clients)
		}
		w.look()
		counts["applied"] += len(w.applied)
		counts["answered"] += len(w.answered)
		for _, r := range w.replicas {
			counts["views"] += r.Status().View
			counts["cuts"] += r.Status().Base / 8
		}
	}
	t.Log(counts)
	for _, what := range append(kinds[3:], "Prepare", "answered", "views", "cuts", "crashes", "restarts") {
		if counts[what] < 200 {
			t.Error("one-sided worlds:", what, counts[what])
		}
	}
}
