package cluster_test

import (
	"math"
	"slices"
	"strings"
	"testing"

	"primer/api"
	"primer/cluster"
	"primer/command"
	"primer/message"
	"primer/oplog"
	"primer/replica"
)

// do one step; what comes of it must be as told, and it is counted.
func do(t *testing.T, c *cluster.Cluster, s cluster.Step, want bool) {
	t.Helper()
	was := c.Steps()
	if got := c.Do(s); got != want || c.Steps() != was+1 {
		t.Errorf("%+v: %v, %d steps after %d", s, got, c.Steps(), was)
	}
}

func ask(client int, text string) cluster.Step {
	return cluster.Step{Kind: cluster.Ask, A: client, Text: text}
}

// of a kind with a number or two.
func of(kind, a int, b ...int) cluster.Step {
	s := cluster.Step{Kind: kind, A: a}
	if len(b) > 0 {
		s.B = b[0]
	}
	return s
}

func under(t *testing.T, c *cluster.Cluster, want int) {
	t.Helper()
	if n := c.Under(); n != want {
		t.Errorf("%d frames under way, not %d", n, want)
	}
}

func down(t *testing.T, c *cluster.Cluster, want int) {
	t.Helper()
	if n := c.Down(); n != want {
		t.Errorf("%d missing, not %d", n, want)
	}
}

// enrol a teacher, by itself.
func enrol(name string) string {
	return command.Put(command.Command{Kind: command.Enrol, Who: name, Name: name, Nums: [4]int{2}})
}

func code(t *testing.T, reply string) api.Errno {
	t.Helper()
	r, err := command.GetReply(reply)
	if err != api.OK {
		t.Fatalf("no reply: %q", reply)
	}
	return r.Code
}

func TestKinds(t *testing.T) {
	kinds := []int{cluster.Ask, cluster.Deliver, cluster.Drop, cluster.Double, cluster.Spoil, cluster.Crash, cluster.Restart, cluster.Tick, cluster.Wait}
	if !slices.Equal(kinds, []int{1, 2, 3, 4, 5, 6, 7, 8, 9}) {
		t.Error(kinds)
	}
}

func TestNew(t *testing.T) {
	for _, most := range []int{0, 4, -1, math.MaxInt, math.MinInt} {
		if cluster.New(most) != nil {
			t.Error(most)
		}
	}
	for most := 1; most <= 3; most++ {
		c := cluster.New(most)
		for i := range 2*most + 1 {
			s, ok := c.Status(i)
			if !ok || s != (replica.Status{State: replica.Normal}) || c.State(i) != oplog.New().State() {
				t.Error(most, i, s, ok)
			}
		}
		for _, i := range []int{2*most + 1, -1, math.MaxInt, math.MinInt} {
			if s, ok := c.Status(i); ok || s != (replica.Status{}) || c.State(i) != "" {
				t.Error(most, i, s, ok)
			}
		}
		l, ok := c.Chronicle()
		if c.Steps() != 0 || c.Under() != 0 || c.Down() != 0 || len(c.History()) != 0 || len(l) != 0 || !ok {
			t.Error(most, l, ok)
		}
	}
}

func TestNil(t *testing.T) {
	var c *cluster.Cluster
	for kind := -1; kind <= 10; kind++ {
		if c.Do(of(kind, 0, 1)) {
			t.Error(kind)
		}
	}
	c.Rest(3)
	if c.Steps() != 0 || c.Under() != 0 || c.Down() != 0 || c.State(0) != "" || len(c.History()) != 0 {
		t.Error("of nothing something")
	}
	if s, ok := c.Status(0); ok || s != (replica.Status{}) {
		t.Error(s, ok)
	}
	if l, ok := c.Chronicle(); ok || len(l) != 0 {
		t.Error(l, ok)
	}
}

func TestExample(t *testing.T) {
	c := cluster.New(1)
	do(t, c, ask(0, enrol("a")), true)
	c.Rest(4)
	h := c.History()
	if len(h) != 1 || h[0].Answered == 0 || code(t, h[0].Reply) != api.OK {
		t.Error(h)
	}
}

// TestNoStep: what is no step is counted, too.
func TestNoStep(t *testing.T) {
	c := cluster.New(1)
	for _, kind := range []int{0, 10, -1, math.MaxInt, math.MinInt} {
		do(t, c, of(kind, 0, 1), false)
	}
	if c.Steps() != 5 {
		t.Error(c.Steps())
	}
}

func TestAsk(t *testing.T) {
	c := cluster.New(1)
	for _, client := range []int{-1, 3, math.MaxInt, math.MinInt} {
		do(t, c, ask(client, "x"), false)
	}
	long := strings.Repeat("x", 8192)
	do(t, c, ask(1, long+"x"), false)
	under(t, c, 0)
	do(t, c, ask(1, long), true)
	under(t, c, 1)
	do(t, c, ask(1, "y"), false)
	do(t, c, ask(0, ""), true)
	do(t, c, ask(2, "z"), true)
	under(t, c, 3)
	want := []cluster.Event{{Client: 1, Number: 1, Text: long, Asked: 6}, {Client: 0, Number: 1, Asked: 8}, {Client: 2, Number: 1, Text: "z", Asked: 9}}
	if h := c.History(); !slices.Equal(h, want) {
		t.Error(h)
	}
}

// TestOneRequest goes with it from its Ask to its answer, frame by frame.
func TestOneRequest(t *testing.T) {
	c := cluster.New(1)
	do(t, c, ask(2, enrol("a")), true)     // 1
	do(t, c, of(cluster.Deliver, 0), true) // 2: two Prepares
	under(t, c, 2)
	if s, _ := c.Status(0); s.Op != 1 || s.Commit != 0 {
		t.Error(s)
	}
	do(t, c, of(cluster.Deliver, 1), true) // 3: that to 2, which acknowledges it
	under(t, c, 2)
	if l, ok := c.Chronicle(); len(l) != 0 || !ok {
		t.Error(l, ok)
	}
	do(t, c, of(cluster.Deliver, -1), true) // 4: the acknowledgement, and a Reply comes
	under(t, c, 2)
	want := []message.Entry{{Client: 2, Number: 1, Text: enrol("a")}}
	if l, ok := c.Chronicle(); !slices.Equal(l, want) || !ok {
		t.Error(l, ok)
	}
	if h := c.History(); h[0].Answered != 0 || h[0].Reply != "" {
		t.Error(h)
	}
	do(t, c, of(cluster.Deliver, -1), true) // 5
	under(t, c, 1)
	m := oplog.New()
	reply := m.Apply(want[0])
	if h := c.History(); len(h) != 1 || h[0] != (cluster.Event{Client: 2, Number: 1, Text: enrol("a"), Asked: 1, Answered: 5, Reply: reply}) {
		t.Error(h)
	}
	if c.State(0) != m.State() || c.State(1) != oplog.New().State() {
		t.Error("states")
	}
	do(t, c, ask(2, "x"), true)
	if h := c.History(); len(h) != 2 || h[1] != (cluster.Event{Client: 2, Number: 2, Text: "x", Asked: 6}) || h[0].Answered != 5 {
		t.Error(h)
	}
}

// TestAgain: a reply that comes twice is told once.
func TestAgain(t *testing.T) {
	c := cluster.New(1)
	do(t, c, ask(0, "x"), true)
	do(t, c, of(cluster.Deliver, 0), true)
	do(t, c, of(cluster.Deliver, 0), true)
	do(t, c, of(cluster.Deliver, -1), true)
	do(t, c, of(cluster.Double, -1), true)
	do(t, c, of(cluster.Deliver, -1), true)
	do(t, c, ask(0, "y"), true)
	do(t, c, of(cluster.Deliver, -2), true)
	under(t, c, 2)
	if h := c.History(); h[0].Answered != 6 || code(t, h[0].Reply) == api.OK || h[1].Answered != 0 || h[1].Reply != "" {
		t.Error(h)
	}
}

func TestNoFrames(t *testing.T) {
	c := cluster.New(2)
	for _, i := range []int{0, 1, -1, math.MaxInt, math.MinInt} {
		for kind := cluster.Deliver; kind <= cluster.Spoil; kind++ {
			do(t, c, cluster.Step{Kind: kind, A: i, C: 1}, false)
		}
	}
	under(t, c, 0)
}

func TestFrames(t *testing.T) {
	c := cluster.New(1)
	do(t, c, ask(0, "x"), true)
	do(t, c, ask(1, "y"), true)
	do(t, c, of(cluster.Double, 3), true) // y again
	under(t, c, 3)
	do(t, c, cluster.Step{Kind: cluster.Spoil, A: 1, B: 2}, false) // by nothing
	do(t, c, cluster.Step{Kind: cluster.Spoil, A: 1, B: -2, C: 1 << 8}, true)
	do(t, c, cluster.Step{Kind: cluster.Spoil, A: 4, B: 3, C: 1}, false) // it was already
	do(t, c, of(cluster.Drop, -3), true)                                 // x
	under(t, c, 2)
	do(t, c, of(cluster.Deliver, 0), true) // the spoilt one
	under(t, c, 1)
	do(t, c, of(cluster.Deliver, 0), true)
	under(t, c, 2)
	do(t, c, of(cluster.Drop, 0), true)
	c.Rest(2)
	if l, ok := c.Chronicle(); !ok || !slices.Equal(l, []message.Entry{{Client: 1, Number: 1, Text: "y"}}) {
		t.Error(l, ok)
	}
}

// TestSpoilAt: the byte that is spoilt is that of B, by the bytes of C.
func TestSpoilAt(t *testing.T) {
	c := cluster.New(1)
	do(t, c, ask(0, "x"), true)
	f := message.Put(message.Message{Kind: message.Request, Number: 1, Text: "x"}, 3)
	last := len(f) - 1
	do(t, c, cluster.Step{Kind: cluster.Spoil, B: last, C: 0xFFFFFF00}, false) // nothing stands behind the last byte
	do(t, c, cluster.Step{Kind: cluster.Spoil, B: last, C: 0xFF}, true)
	do(t, c, of(cluster.Deliver, 0), true)
	under(t, c, 0)
}

func TestCrash(t *testing.T) {
	for most := 1; most <= 3; most++ {
		c := cluster.New(most)
		n := 2*most + 1
		for _, i := range []int{-1, n, math.MaxInt, math.MinInt} {
			do(t, c, of(cluster.Crash, i), false)
		}
		for i := range most {
			do(t, c, of(cluster.Crash, n-1-i), true)
			down(t, c, i+1)
			do(t, c, of(cluster.Crash, n-1-i), false) // it isn't there
		}
		if s, ok := c.Status(n - 1); ok || s != (replica.Status{}) || c.State(n-1) != "" {
			t.Error(s, ok)
		}
		do(t, c, of(cluster.Crash, 0), false) // too many would be missing
		if _, ok := c.Status(0); !ok {
			t.Error("it is gone")
		}
		do(t, c, of(cluster.Restart, n-1, 5), true)
		down(t, c, most)
		do(t, c, of(cluster.Crash, 0), false)
		do(t, c, of(cluster.Crash, n-1), true) // it was missing already
		down(t, c, most)
		do(t, c, of(cluster.Restart, n-1, 6), true)
		c.Rest(3) // it asks, is told, and is there again
		down(t, c, most-1)
		do(t, c, of(cluster.Crash, 0), true)
		down(t, c, most)
	}
}

func TestRestart(t *testing.T) {
	c := cluster.New(2)
	do(t, c, of(cluster.Restart, 1, 1), false) // it isn't crashed
	do(t, c, of(cluster.Crash, 1), true)
	for _, nonce := range []int{0, -1, math.MinInt, api.MaxNumber + 1, math.MaxInt} {
		do(t, c, of(cluster.Restart, 1, nonce), false)
	}
	for _, i := range []int{-1, 5, math.MaxInt, math.MinInt} {
		do(t, c, of(cluster.Restart, i, 1), false)
	}
	do(t, c, of(cluster.Restart, 1, 9), true)
	if s, ok := c.Status(1); !ok || s.State != replica.Recovering {
		t.Error(s, ok)
	}
	do(t, c, of(cluster.Restart, 1, 10), false)
	do(t, c, of(cluster.Crash, 1), true)
	do(t, c, of(cluster.Crash, 3), true)
	do(t, c, of(cluster.Restart, 3, 9), false) // it was used
	do(t, c, of(cluster.Restart, 3, 8), false) // a greater one was
	do(t, c, of(cluster.Restart, 3, 10), true) // the one above, which wasn't done, doesn't count
	do(t, c, of(cluster.Restart, 1, api.MaxNumber), true)
	do(t, c, of(cluster.Crash, 1), true)
	do(t, c, of(cluster.Restart, 1, api.MaxNumber), false)
	down(t, c, 2)
	c.Rest(3)
	down(t, c, 1)
}

// TestCrashed: frames that come to a crashed replica are gone, and it has no ticks.
func TestCrashed(t *testing.T) {
	c := cluster.New(1)
	do(t, c, ask(0, "x"), true)
	do(t, c, of(cluster.Crash, 0), true)
	do(t, c, of(cluster.Tick, 0), false)
	do(t, c, of(cluster.Deliver, 0), true)
	under(t, c, 0)
	for range 8 {
		do(t, c, of(cluster.Tick, 1), true)
	}
	under(t, c, 2) // votes for view 1
	do(t, c, of(cluster.Deliver, 0), true)
	under(t, c, 1)
}

// TestLost: what a crashed replica has applied stands in the chronicle, though none has it any more.
func TestLost(t *testing.T) {
	c := cluster.New(1)
	do(t, c, ask(0, "x"), true)
	do(t, c, of(cluster.Deliver, 0), true)
	do(t, c, of(cluster.Deliver, 0), true)
	do(t, c, of(cluster.Deliver, -1), true)
	do(t, c, of(cluster.Crash, 0), true)
	if l, ok := c.Chronicle(); !ok || !slices.Equal(l, []message.Entry{{Number: 1, Text: "x"}}) {
		t.Error(l, ok)
	}
	do(t, c, of(cluster.Restart, 0, 1), true)
	if s, _ := c.Status(0); s != (replica.Status{State: replica.Recovering}) || c.State(0) != oplog.New().State() {
		t.Error(s)
	}
}

func TestTickAndWait(t *testing.T) {
	c := cluster.New(1)
	for _, i := range []int{-1, 3, math.MaxInt, math.MinInt} {
		do(t, c, of(cluster.Tick, i), false)
		do(t, c, of(cluster.Wait, i), false)
	}
	do(t, c, of(cluster.Tick, 1), true)
	under(t, c, 0)
	do(t, c, of(cluster.Tick, 0), true)
	under(t, c, 2)
	for range 4 {
		do(t, c, of(cluster.Wait, 2), true)
	}
	under(t, c, 2)
	do(t, c, ask(2, "x"), true)
	for range 3 {
		do(t, c, of(cluster.Wait, 2), true)
	}
	under(t, c, 3)
	do(t, c, of(cluster.Wait, 2), true)
	under(t, c, 6)
}

// TestRest holds it against its steps, done one by one.
func TestRest(t *testing.T) {
	c, d := cluster.New(1), cluster.New(1)
	both := func(s cluster.Step) {
		do(t, c, s, true)
		do(t, d, s, true)
	}
	both(ask(0, "x"))
	both(ask(2, "y"))
	both(of(cluster.Crash, 1))
	for _, rounds := range []int{0, -1, math.MinInt} {
		c.Rest(rounds)
	}
	if c.Steps() != 3 {
		t.Error(c.Steps())
	}
	for range 12 {
		c.Rest(1)
		for range d.Under() {
			do(t, d, of(cluster.Deliver, 0), true)
		}
		do(t, d, of(cluster.Tick, 0), true)
		do(t, d, of(cluster.Tick, 2), true)
		for client := range 3 {
			do(t, d, of(cluster.Wait, client), true)
		}
		if c.Steps() != d.Steps() || c.Under() != d.Under() || !slices.Equal(c.History(), d.History()) {
			t.Fatal(c.Steps(), d.Steps(), c.Under(), d.Under())
		}
	}
	e := cluster.New(1)
	do(t, e, ask(0, "x"), true)
	do(t, e, ask(2, "y"), true)
	do(t, e, of(cluster.Crash, 1), true)
	e.Rest(12)
	if e.Steps() != c.Steps() || !slices.Equal(c.History(), e.History()) {
		t.Error(e.Steps(), c.Steps())
	}
}

// TestFull: what the network has no room for is lost.
func TestFull(t *testing.T) {
	c := cluster.New(1)
	do(t, c, ask(0, "x"), true)
	for range 1023 {
		do(t, c, of(cluster.Double, 0), true)
	}
	do(t, c, of(cluster.Double, 0), false)
	do(t, c, ask(1, "y"), true) // its frame is lost
	under(t, c, 1024)
	do(t, c, of(cluster.Deliver, 0), true) // one of two Prepares is
	under(t, c, 1024)
	c.Rest(8)
	for _, e := range c.History() {
		if e.Answered == 0 {
			t.Error(e)
		}
	}
}

// TestNewMemory: what is told is the asker's own.
func TestNewMemory(t *testing.T) {
	c := cluster.New(1)
	do(t, c, ask(0, "x"), true)
	do(t, c, ask(1, "y"), true)
	c.Rest(4)
	h, l := c.History(), chronicle(c)
	if len(h) != 2 || len(l) != 2 {
		t.Fatal(h, l)
	}
	was, entries := slices.Clone(h), slices.Clone(l)
	h[0], l[0] = cluster.Event{}, message.Entry{}
	_, _ = append(h[:1], cluster.Event{}), append(l[:1], message.Entry{})
	if !slices.Equal(c.History(), was) || !slices.Equal(chronicle(c), entries) {
		t.Error("changed from without")
	}
	h = c.History()
	do(t, c, ask(0, "z"), true)
	c.Rest(4)
	if !slices.Equal(h, was) || len(c.History()) != 3 {
		t.Error("changed later on")
	}
}

func chronicle(c *cluster.Cluster) []message.Entry {
	l, _ := c.Chronicle()
	return l
}

// TestOldReply: a reply to an earlier request is none to a later one.
func TestOldReply(t *testing.T) {
	c := cluster.New(1)
	do(t, c, ask(0, "x"), true)
	do(t, c, of(cluster.Deliver, 0), true)
	do(t, c, of(cluster.Deliver, 0), true)
	do(t, c, of(cluster.Deliver, -1), true)
	do(t, c, of(cluster.Double, -1), true) // the Reply, twice
	do(t, c, of(cluster.Deliver, -1), true)
	do(t, c, ask(0, enrol("a")), true)
	do(t, c, of(cluster.Deliver, 1), true) // the other one
	if h := c.History(); h[0].Answered != 6 || h[1].Answered != 0 {
		t.Error(h)
	}
	c.Rest(4)
	if h := c.History(); h[1].Answered == 0 || code(t, h[1].Reply) != api.OK {
		t.Error(h)
	}
}

// TestNextPrimary: of three replicas the primary crashes: the others elect the next one, and the request is answered; one that comes back knows all.
func TestNextPrimary(t *testing.T) {
	c := cluster.New(1)
	do(t, c, ask(0, enrol("a")), true)
	c.Rest(4)
	do(t, c, of(cluster.Crash, 0), true)
	do(t, c, ask(0, enrol("b")), true)
	c.Rest(16 * 7)
	h := c.History()
	if h[1].Answered == 0 || code(t, h[1].Reply) == api.OK {
		t.Error(h)
	}
	if s, _ := c.Status(1); s.State != replica.Normal || s.View != 1 || s.Commit != 2 {
		t.Error(s)
	}
	do(t, c, of(cluster.Restart, 0, 1), true)
	c.Rest(4)
	if s, _ := c.Status(0); s.State != replica.Normal || s.View != 1 || c.State(0) != c.State(1) {
		t.Error(s)
	}
	if l, ok := c.Chronicle(); !ok || len(l) != 2 || l[1].Text != enrol("b") {
		t.Error(l, ok)
	}
}
