package judge_test

import (
	"fmt"
	"math/rand/v2"
	"slices"
	"testing"

	"primer/api"
	"primer/cluster"
	"primer/command"
	"primer/judge"
	"primer/message"
	"primer/oplog"
)

// isAhead, as the chapter says.
func isAhead(e, other cluster.Event) bool {
	return e.Answered > 0 && e.Answered < other.Asked
}

// slowBears looks at all pairs of entries, and of events.
func slowBears(l []message.Entry, h []cluster.Event) bool {
	m := oplog.New()
	var replies []string
	for k, x := range l {
		for _, y := range l[:k] {
			if x.Client == y.Client && x.Number == y.Number {
				return false
			}
		}
		replies = append(replies, m.Apply(x))
	}
	place := func(e cluster.Event) int { return slices.Index(l, entries(e)[0]) }
	for _, e := range h {
		k := place(e)
		if e.Answered > 0 && (k < 0 || replies[k] != e.Reply) {
			return false
		}
		for _, x := range h {
			if isAhead(e, x) && k >= 0 && place(x) >= 0 && place(x) <= k {
				return false
			}
		}
	}
	return true
}

// slowFits looks at all pairs, too, also those of which one isn't in the order.
func slowFits(h []cluster.Event, order []int) bool {
	m := oplog.New()
	in := map[int]bool{}
	for k, i := range order {
		if i < 0 || i >= len(h) || in[i] {
			return false
		}
		in[i] = true
		for _, before := range order[:k+1] {
			if isAhead(h[i], h[before]) {
				return false
			}
		}
	}
	for i, e := range h {
		if e.Answered > 0 && !in[i] {
			return false
		}
		for _, x := range order {
			if !in[i] && isAhead(e, h[x]) {
				return false
			}
		}
	}
	for _, i := range order {
		if reply := m.Apply(entries(h[i])[0]); h[i].Answered > 0 && reply != h[i].Reply {
			return false
		}
	}
	return true
}

// slowOrder tries all lists of different places, one after the other.
func slowOrder(h []cluster.Event, order []int) bool {
	if slowFits(h, order) {
		return true
	}
	for i := range h {
		if !slices.Contains(order, i) && slowOrder(h, append(slices.Clone(order), i)) {
			return true
		}
	}
	return false
}

// someText: what it is answered depends on what was applied before.
func someText(r *rand.Rand) string {
	switch r.IntN(6) {
	case 0:
		return show()
	case 1, 2:
		return command.Put(command.Command{Kind: command.Edit, Who: "a", Text: "s:" + []string{"'x'", "'y'"}[r.IntN(2)] + ";"})
	case 3:
		return "no command"
	}
	return enrol(string(rune('a' + r.IntN(3))))
}

// someHistory: requests that were applied one after the other, as a machine answered them; then something else is told, perhaps.
func someHistory(r *rand.Rand, n int) ([]message.Entry, []cluster.Event) {
	m := oplog.New()
	var l []message.Entry
	var h []cluster.Event
	numbers := [4]int{}
	spread := 1 + r.IntN(6)
	for k := range n {
		client := r.IntN(3)
		if r.IntN(30) == 0 {
			client = 3
		}
		numbers[client] += 1 + r.IntN(8)/7
		e := cluster.Event{Client: client, Number: numbers[client], Text: someText(r), Asked: 10 + 4*k - r.IntN(spread), Answered: 10 + 4*k + r.IntN(2*spread)}
		x := entries(e)[0]
		e.Reply = m.Apply(x)
		if r.IntN(5) == 0 {
			e.Answered, e.Reply = -r.IntN(2), ""
		}
		if e.Answered > 0 || r.IntN(3) > 0 {
			l = append(l, x)
		}
		h = append(h, e)
	}
	for range r.IntN(3) {
		spoil(r, l, h)
	}
	r.Shuffle(len(h), func(a, b int) { h[a], h[b] = h[b], h[a] })
	return l, h
}

// spoil a chronicle or a history.
func spoil(r *rand.Rand, l []message.Entry, h []cluster.Event) {
	if len(l) < 2 || len(h) < 2 {
		return
	}
	a, b := r.IntN(len(h)), r.IntN(len(h))
	switch r.IntN(8) {
	case 0:
		h[a].Reply = h[b].Reply
	case 1:
		h[a].Reply, h[b].Reply = h[b].Reply, h[a].Reply
	case 2:
		h[a].Asked += r.IntN(30) - 15
	case 3:
		h[a].Answered = max(0, h[a].Answered+r.IntN(30)-15)
	case 4:
		h[a].Number += r.IntN(3) - 1
	case 5:
		h[a].Text = h[b].Text
	case 6:
		k := r.IntN(len(l) - 1)
		l[k], l[k+1] = l[k+1], l[k]
	case 7:
		l[r.IntN(len(l))] = l[r.IntN(len(l))]
	}
}

// someOrder: mostly one in which all stand.
func someOrder(r *rand.Rand, n int) []int {
	order := r.Perm(n)
	if r.IntN(3) > 0 {
		slices.Sort(order)
	}
	if n > 1 && r.IntN(3) == 0 {
		k := r.IntN(n - 1)
		order[k], order[k+1] = order[k+1], order[k]
	}
	if n > 0 && r.IntN(3) == 0 {
		k := r.IntN(n)
		order = slices.Delete(order, k, k+1)
	}
	if n > 0 && r.IntN(12) == 0 {
		order = append(order, r.IntN(n+2)-1)
	}
	return order
}

// TestManyHistories: each answer is held against a slow one.
func TestManyHistories(t *testing.T) {
	r := rand.New(rand.NewPCG(291, 292))
	counts := map[string]int{}
	for k := range 3000 {
		l, h := someHistory(r, r.IntN(12))
		bears := judge.Bears(l, h)
		if bears != slowBears(l, h) {
			t.Fatal("Bears", k, l, h, bears)
		}
		counts[fmt.Sprint("Bears ", bears)]++
		slices.SortFunc(h, func(a, b cluster.Event) int { return a.Asked - b.Asked })
		order := someOrder(r, len(h))
		fits := judge.Fits(h, order)
		if fits != slowFits(h, order) {
			t.Fatal("Fits", k, h, order, fits)
		}
		counts[fmt.Sprint("Fits ", fits)]++
	}
	for k := range 1200 {
		_, h := someHistory(r, 2+r.IntN(4))
		order, ok := judge.Order(h)
		if ok != slowOrder(h, nil) || ok && !slowFits(h, order) || !ok && len(order) > 0 {
			t.Fatal("Order", k, h, order, ok)
		}
		counts[fmt.Sprint("Order ", ok)]++
	}
	t.Log(counts)
	for _, what := range []string{"Bears true", "Bears false", "Fits true", "Fits false", "Order true", "Order false"} {
		if counts[what] < 200 {
			t.Error("one-sided histories:", what, counts[what])
		}
	}
}

// TestManyOrders: of a history that a chronicle of its requests bears an order fits, and one is told, where there are few.
func TestManyOrders(t *testing.T) {
	r := rand.New(rand.NewPCG(293, 294))
	counts := map[string]int{}
	for k := range 1500 {
		l, h := someHistory(r, r.IntN(11))
		var order []int // of the events, as their entries stand
		for _, x := range l {
			i := slices.IndexFunc(h, func(e cluster.Event) bool { return entries(e)[0] == x })
			if i >= 0 {
				order = append(order, i)
			}
		}
		if len(order) < len(l) || !judge.Bears(l, h) {
			continue
		}
		if !judge.Fits(h, order) {
			t.Fatal(k, "doesn't fit", l, h)
		}
		got, ok := judge.Order(h)
		if ok != (len(h) <= 8) || ok && !judge.Fits(h, got) || !ok && len(got) > 0 {
			t.Fatal(k, h, got, ok)
		}
		counts[fmt.Sprint(len(h) <= 8)]++
	}
	if counts["true"] < 300 || counts["false"] < 50 {
		t.Error("one-sided histories:", counts)
	}
}

// someSteps of a cluster, at most so many of them requests.
func someSteps(r *rand.Rand, c *cluster.Cluster, group, asks int) {
	for range 200 + r.IntN(600) {
		s := cluster.Step{Kind: []int{2, 2, 2, 2, 2, 2, 2, 2, 3, 4, 5, 6, 7, 8, 8, 9}[r.IntN(16)], B: r.Int(), C: r.Uint32()}
		if r.IntN(20) == 0 {
			s.Kind, s.Text = cluster.Ask, someText(r)
		}
		switch s.Kind {
		case cluster.Ask, cluster.Wait:
			s.A = r.IntN(api.MaxClients)
		case cluster.Crash, cluster.Restart, cluster.Tick:
			s.A, s.B = r.IntN(group), c.Steps()+1
		default:
			s.A = r.IntN(1 + c.Under())
		}
		if s.Kind != cluster.Ask || len(c.History()) < asks {
			c.Do(s)
		}
	}
}

// TestManyClusters: what clients of a cluster were told its chronicle bears; of few requests an order is told.
func TestManyClusters(t *testing.T) {
	r := rand.New(rand.NewPCG(295, 296))
	told, open := 0, 0
	for k := range 150 {
		most := 1 + k%3
		c := cluster.New(most)
		asks := 8 + k%2*r.IntN(60)
		someSteps(r, c, 2*most+1, asks)
		l, ok := c.Chronicle()
		h := c.History()
		if !ok || !judge.Bears(l, h) {
			t.Fatal(k, "not borne", l, h)
		}
		order, ok := judge.Order(h)
		if ok != (len(h) <= 8) || ok && !judge.Fits(h, order) {
			t.Fatal(k, h, order, ok)
		}
		told += len(order)
		for i, e := range h {
			if e.Answered == 0 {
				open++
				continue
			}
			h[i].Reply += "?"
			if judge.Bears(l, h) {
				t.Error(k, "bears another reply of", i)
			}
			h[i].Reply = e.Reply
		}
	}
	if told < 200 || open < 50 {
		t.Error("one-sided clusters:", told, open)
	}
}
