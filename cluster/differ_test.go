package cluster

import (
	"slices"
	"testing"

	"primer/message"
)

// TestDiffer: by P28.4 no steps come to it, so that the entry of another replica is put in by hand.
func TestDiffer(t *testing.T) {
	other := message.Entry{Client: 2, Number: 7, Text: "other"}
	for _, x := range []struct {
		op int
		l  []message.Entry // what the chronicle tells
		ok bool
	}{
		{1, []message.Entry{other}, false}, // the one that was applied first
		{2, []message.Entry{{Number: 1, Text: "x"}, other}, true},
		{3, []message.Entry{{Number: 1, Text: "x"}}, true}, // as long as there is one of each
	} {
		c := New(1)
		c.applied[x.op] = other
		c.Do(Step{Kind: Ask, Text: "x"})
		c.Rest(4)
		if l, ok := c.Chronicle(); ok != x.ok || !slices.Equal(l, x.l) {
			t.Error(x.op, l, ok)
		}
	}
}
