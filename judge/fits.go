package judge

import (
	"math"

	"primer/cluster"
	"primer/message"
	"primer/oplog"
)

// fits: can entries, one after the other, be what led to a history? Each event's place among them is told.
func fits(l []message.Entry, h []cluster.Event, place func(i int) int) bool {
	for i, e := range h {
		if answered(e) && place(i) == none {
			return false
		}
	}
	return inTurn(len(l), h, place) && replied(l, h, place)
}

// inTurn: does each event stand behind all that are ahead of it?
func inTurn(places int, h []cluster.Event, place func(i int) int) bool {
	least := make([]int, places) // the least Answered of those that stand here or behind
	for k := range least {
		least[k] = math.MaxInt
	}
	for i, e := range h {
		if k := place(i); k != none && answered(e) {
			least[k] = min(least[k], e.Answered)
		}
	}
	for k := places - 1; k > 0; k-- {
		least[k-1] = min(least[k-1], least[k])
	}
	for i, e := range h {
		if k := place(i); k != none && least[k] < e.Asked {
			return false
		}
	}
	return true
}

// replied: were the answered ones told what a machine replies?
func replied(l []message.Entry, h []cluster.Event, place func(i int) int) bool {
	m := oplog.New()
	replies := make([]string, len(l))
	for k, x := range l {
		replies[k] = m.Apply(x)
	}
	for i, e := range h {
		if answered(e) && replies[place(i)] != e.Reply {
			return false
		}
	}
	return true
}
