package network_test

import (
	"math"
	"strings"
	"testing"

	"primer/frame"
	"primer/network"
)

// netOf frames with these bytes, sent from 1 to 2.
func netOf(all ...string) *network.Net {
	n := &network.Net{}
	for _, s := range all {
		n.Send(1, 2, s)
	}
	return n
}

// bytes of all that is under way, with a star behind what was spoilt.
func bytes(n *network.Net) string {
	var l []string
	for i := range n.Count() {
		f, _ := n.Look(i)
		if f.Spoilt {
			f.Bytes += "*"
		}
		l = append(l, f.Bytes)
	}
	return strings.Join(l, " ")
}

// TestExample: the chapter's own.
func TestExample(t *testing.T) {
	n := netOf("a", "b")
	if !n.Double(0) {
		t.Error("not doubled")
	}
	if f, ok := n.Take(-1); !ok || f != (network.Frame{From: 1, To: 2, Bytes: "a"}) || bytes(n) != "a b" {
		t.Error(f, ok, bytes(n))
	}
}

func TestSend(t *testing.T) {
	n := &network.Net{}
	all := []network.Frame{{From: 0, To: 2, Bytes: "a"}, {From: -3, To: 1, Bytes: ""}, {From: 2, To: -1, Bytes: "\x00\xff"}, {From: math.MinInt, To: math.MaxInt, Bytes: "a"}}
	for k, f := range all {
		if n.Count() != k || !n.Send(f.From, f.To, f.Bytes) {
			t.Error(k, n.Count())
		}
	}
	for k, f := range all {
		if got, ok := n.Look(k); !ok || got != f {
			t.Error(k, got, ok)
		}
	}
	if n.Count() != len(all) {
		t.Error(n.Count())
	}
}

// TestNone: of no frames, and of no network, nothing is told.
func TestNone(t *testing.T) {
	for _, n := range []*network.Net{nil, {}, netOf()} {
		for _, i := range []int{0, 1, -1, math.MinInt, math.MaxInt} {
			look, seen := n.Look(i)
			take, taken := n.Take(i)
			if seen || taken || look != (network.Frame{}) || take != (network.Frame{}) {
				t.Error(i, look, take)
			}
			if n.Double(i) || n.Spoil(i, 0, 1) || n.Count() != 0 {
				t.Error(i, n.Count())
			}
		}
	}
	var none *network.Net
	if none.Send(0, 1, "a") || none.Count() != 0 {
		t.Error("sent over no network")
	}
}

func TestRoom(t *testing.T) {
	n := &network.Net{}
	for k := range 1024 {
		if !n.Send(k, 0, "a") {
			t.Fatal(k)
		}
	}
	if n.Send(1024, 0, "a") || n.Double(3) || n.Count() != 1024 {
		t.Error("more than may be", n.Count())
	}
	if f, _ := n.Look(-1); f.From != 1023 {
		t.Error(f)
	}
	if !n.Spoil(5, 0, 1) {
		t.Error("not spoilt")
	}
	if f, ok := n.Take(7); !ok || f.From != 7 || n.Count() != 1023 {
		t.Error(f, ok, n.Count())
	}
	if !n.Double(7) || n.Double(7) || n.Send(0, 0, "") || n.Count() != 1024 {
		t.Error("one more, and no other", n.Count())
	}
	if f, _ := n.Look(1023); f.From != 8 {
		t.Error(f)
	}
}

func TestPlaces(t *testing.T) {
	for i, want := range map[int]string{
		0: "a", 1: "b", 2: "c", 3: "a", 301: "b", -1: "c", -2: "b", -3: "a", -4: "c",
		math.MaxInt: "b", math.MinInt: "b", math.MinInt + 1: "c",
	} {
		n := netOf("a", "b", "c")
		if f, ok := n.Look(i); !ok || f.Bytes != want || bytes(n) != "a b c" {
			t.Error("look", i, f, ok)
		}
		if !n.Double(i) || bytes(n) != "a b c "+want {
			t.Error("double", i, bytes(n))
		}
		n = netOf("a", "b", "c")
		f, ok := n.Take(i)
		if rest := strings.Join(strings.Split(strings.Replace("abc", want, "", 1), ""), " "); !ok || f.Bytes != want || bytes(n) != rest {
			t.Error("take", i, f, ok, bytes(n))
		}
	}
}

func TestTakeAll(t *testing.T) {
	n := netOf("a", "b", "c", "d")
	for _, x := range []struct {
		i    int
		took string
		left string
	}{{1, "b", "a c d"}, {5, "d", "a c"}, {-2, "a", "c"}, {-7, "c", ""}} {
		if f, ok := n.Take(x.i); !ok || f != (network.Frame{From: 1, To: 2, Bytes: x.took}) || bytes(n) != x.left {
			t.Error(x, f, ok, bytes(n))
		}
	}
	if f, ok := n.Take(0); ok || f != (network.Frame{}) {
		t.Error(f, ok)
	}
	if !n.Send(1, 2, "e") || bytes(n) != "e" {
		t.Error(bytes(n))
	}
}

func TestSpoil(t *testing.T) {
	for _, x := range []struct {
		s    string
		at   int
		by   uint32
		want string // with a star, where it is spoilt
	}{
		{"abcdef", 0, 0x04030201, "````ef*"},
		{"abcdef", 2, 0x04030201, "abbffb*"},
		{"abcdef", 3, 0x04030201, "abcege*"},
		{"abcdef", 5, 0x04030201, "abcdeg*"},
		{"abcdef", 6, 0x00000001, "`bcdef*"},
		{"abcdef", -1, 0x00000001, "abcdeg*"},
		{"abcdef", -6, 0x00000001, "`bcdef*"},
		{"abcdef", -7, 0xff000001, "abcdeg*"},
		{"abcdef", math.MaxInt, 0x00000001, "accdef*"}, // of the remainder 1
		{"abcdef", 2, 0, "abcdef"},
		{"abcdef", 5, 0x04030200, "abcdef"},
		{"abcdef", 4, 0x04030000, "abcdef"},
		{"abcdef", 3, 0x04000000, "abcdef"},
		{"abcdef", 2, 0x04000000, "abcdeb*"},
		{"a", 0, 0xffffff00, "a"},
		{"a", 0, 0xffffffff, "\x9e*"},
		{"a", math.MinInt, 0x01, "`*"},
		{"", 0, 0xffffffff, ""},
		{"", -5, 1, ""},
	} {
		n := netOf("first", x.s, "last")
		want := "first " + x.want + " last"
		if got := n.Spoil(1, x.at, x.by); got != strings.HasSuffix(x.want, "*") || bytes(n) != want {
			t.Error(x, got, bytes(n))
		}
	}
}

// TestSpoilOnce: no frame is spoilt twice; one that stayed as it was may be.
func TestSpoilOnce(t *testing.T) {
	n := netOf("abc", "abc")
	if n.Spoil(-1, 1, 0) || n.Spoil(1, 2, 0x100) || !n.Spoil(1, 1, 1) || bytes(n) != "abc acc*" {
		t.Error(bytes(n))
	}
	if n.Spoil(1, 1, 1) || n.Spoil(-1, 0, 0xffffffff) || bytes(n) != "abc acc*" {
		t.Error(bytes(n))
	}
	if !n.Double(1) || n.Spoil(2, 0, 1) || bytes(n) != "abc acc* acc*" {
		t.Error("a spoilt one doubled", bytes(n))
	}
	if !n.Double(0) || !n.Spoil(0, 0, 1) || bytes(n) != "`bc* acc* acc* abc" {
		t.Error("one of two alike", bytes(n))
	}
	if !n.Spoil(3, 2, 1) || bytes(n) != "`bc* acc* acc* abb*" {
		t.Error("the other", bytes(n))
	}
	if f, ok := n.Take(2); !ok || f != (network.Frame{From: 1, To: 2, Bytes: "acc", Spoilt: true}) {
		t.Error(f, ok)
	}
	if !n.Send(1, 2, "acc") || !n.Spoil(-1, 0, 1) {
		t.Error("sent anew it isn't spoilt")
	}
}

// TestToldBySum: what was spoilt is no frame any more, wherever it was.
func TestToldBySum(t *testing.T) {
	s := frame.Wrap("some body")
	for at := range len(s) {
		for _, by := range []uint32{1, 0x80, 0x100, 0x80000000, 0xffffffff, 0x01000001} {
			n := netOf(s)
			spoilt := n.Spoil(0, at, by)
			f, _ := n.Take(0)
			if body, err := frame.Open(f.Bytes); (err == 0) == spoilt {
				t.Error(at, by, spoilt, body, err)
			}
		}
	}
}

// TestKept: a frame that was looked at isn't the one under way.
func TestKept(t *testing.T) {
	n := netOf("abc")
	f, _ := n.Look(0)
	n.Spoil(0, 0, 1)
	if f.Bytes != "abc" || f.Spoilt {
		t.Error(f)
	}
	f.Spoilt, f.Bytes = false, "another"
	if bytes(n) != "`bc*" {
		t.Error(bytes(n))
	}
	other := &network.Net{}
	if other.Count() != 0 {
		t.Error("networks share their frames")
	}
}
