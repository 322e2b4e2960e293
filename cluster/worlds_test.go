package cluster_test

import (
	"fmt"
	"math/rand/v2"
	"testing"

	"primer/api"
	"primer/cluster"
	"primer/command"
	"primer/message"
	"primer/oplog"
)

// someText of a command, or of none.
func someText(r *rand.Rand) string {
	name := string(rune('a' + r.IntN(3)))
	c := command.Command{Kind: command.Enrol, Who: "a", Name: name, Nums: [4]int{1 + r.IntN(2)}}
	switch r.IntN(5) {
	case 0:
		return "no command"
	case 1:
		c = command.Command{Kind: command.Edit, Who: name, Text: "s:'x'|;"}
	case 2:
		c = command.Command{Kind: command.Undo, Who: name}
	case 3:
		c = command.Command{Kind: command.Show, Who: name}
	}
	return command.Put(c)
}

// safe: is what clients were told what one machine answers, one request after the other?
func safe(c *cluster.Cluster) error {
	l, ok := c.Chronicle()
	if !ok {
		return fmt.Errorf("replicas applied different entries")
	}
	m := oplog.New()
	places, replies := map[message.Entry]int{}, map[message.Entry]string{}
	once := map[[2]int]bool{}
	for k, x := range l {
		if once[[2]int{x.Client, x.Number}] {
			return fmt.Errorf("applied twice: %v", x)
		}
		once[[2]int{x.Client, x.Number}] = true
		places[x], replies[x] = k+1, m.Apply(x)
	}
	h := c.History()
	entry := func(e cluster.Event) message.Entry {
		return message.Entry{Client: e.Client, Number: e.Number, Text: e.Text}
	}
	for _, e := range h {
		if e.Answered == 0 {
			continue
		}
		if places[entry(e)] == 0 || replies[entry(e)] != e.Reply {
			return fmt.Errorf("%v: told %x, not %x", e, e.Reply, replies[entry(e)])
		}
		for _, x := range h {
			if place := places[entry(x)]; e.Answered < x.Asked && place > 0 && place < places[entry(e)] {
				return fmt.Errorf("the wrong way round: %v, %v", e, x)
			}
		}
	}
	return nil
}

// answered: how many are, of how many.
func answered(c *cluster.Cluster) (int, int) {
	n, h := 0, c.History()
	for _, e := range h {
		if e.Answered > 0 {
			n++
		}
	}
	return n, len(h)
}

// stir a cluster: each kind of steps is as often as it is told, and frames come in one of some orders.
func stir(r *rand.Rand, c *cluster.Cluster, group, steps int, counts map[string]int) {
	var often []int
	for kind, most := range []int{cluster.Ask: 6, cluster.Deliver: 60, cluster.Drop: 8, cluster.Double: 6, cluster.Spoil: 4, cluster.Crash: 3, cluster.Restart: 5, cluster.Tick: 20, cluster.Wait: 8} {
		for range r.IntN(1 + most) {
			often = append(often, kind)
		}
	}
	often = append(often, cluster.Deliver)
	order, slow := r.IntN(4), r.IntN(group+3)
	for range steps {
		s := cluster.Step{Kind: often[r.IntN(len(often))], B: r.Int(), C: r.Uint32()}
		switch s.Kind {
		case cluster.Ask, cluster.Wait:
			s.A, s.Text = r.IntN(3), someText(r)
		case cluster.Crash, cluster.Restart, cluster.Tick:
			s.A, s.B = r.IntN(group), c.Steps()+1
			if s.A == slow && r.IntN(6) > 0 {
				continue
			}
		default: // in order, the newest first, all alike, the older ones before
			s.A = []int{0, -1 - r.IntN(4), r.IntN(1 << 20), r.IntN(1 + c.Under()/4)}[order]
		}
		if c.Do(s) {
			counts[fmt.Sprint(s.Kind)]++
		}
	}
}

// TestManyWorlds: whatever steps are done, all is safe; and behind so many rounds of rest all is answered.
func TestManyWorlds(t *testing.T) {
	r := rand.New(rand.NewPCG(283, 284))
	counts := map[string]int{}
	for k := range 300 {
		most := 1 + k%3
		group := 2*most + 1
		c := cluster.New(most)
		for range 1 + r.IntN(6) {
			stir(r, c, group, r.IntN(600), counts)
			if r.IntN(4) == 0 {
				c.Rest(r.IntN(10))
			}
		}
		if err := safe(c); err != nil {
			t.Fatal(k, err)
		}
		n, all := answered(c)
		counts["open"] += all - n
		c.Rest(16 * (2*most + 5))
		if n, all := answered(c); n < all {
			t.Fatal("not answered", k, n, all)
		}
		if err := safe(c); err != nil {
			t.Fatal(k, err)
		}
		l, _ := c.Chronicle()
		counts["applied"] += len(l)
		for i := range group {
			s, _ := c.Status(i)
			counts["views"] += s.View
			counts["cuts"] += s.Base / 8
		}
	}
	t.Log(counts)
	for _, what := range []string{"1", "2", "3", "4", "5", "6", "7", "8", "9", "open", "applied", "views", "cuts"} {
		if counts[what] < 150 {
			t.Error("one-sided worlds:", what, counts[what])
		}
	}
}

// TestMostMissing: all is answered, also while as many as may be are gone, whichever these are.
func TestMostMissing(t *testing.T) {
	for most := 1; most <= 3; most++ {
		group := 2*most + 1
		for first := range group {
			c := cluster.New(most)
			for k := range most {
				do(t, c, of(cluster.Crash, (first+k)%group), true)
			}
			for client := range api.MaxClients {
				do(t, c, ask(client, enrol("a")), true)
			}
			c.Rest(16 * (2*most + 5))
			if n, all := answered(c); n != 3 || all != 3 {
				t.Error(most, first, n)
			}
			if err := safe(c); err != nil {
				t.Error(most, first, err)
			}
		}
	}
}
