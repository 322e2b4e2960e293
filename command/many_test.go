package command_test

import (
	"math"
	"math/rand/v2"
	"slices"
	"testing"

	"primer/api"
	"primer/command"
)

// spoil some bytes in a place or two.
func spoil(r *rand.Rand, text string) string {
	s := []byte(text)
	for range r.IntN(3) {
		k := r.IntN(len(s))
		switch r.IntN(4) {
		case 0:
			s[k] = byte(r.IntN(256))
		case 1:
			s[k] += byte(r.IntN(5) - 2)
		case 2:
			s = slices.Delete(s, k, k+1)
		case 3:
			s = slices.Insert(s, k, byte(r.IntN(128)))
		}
	}
	return string(s)
}

func someText(r *rand.Rand) string {
	return []string{"", "a", "b-9", "9", "x y", "\xff\x00"}[r.IntN(6)]
}

func someTexts(r *rand.Rand) []string {
	var l []string
	for range r.IntN(4) {
		l = append(l, someText(r))
	}
	return l
}

func someNumber(r *rand.Rand) int {
	return []int{0, 1, -1, 18, 19, 20, 255, 256, api.MaxNumber, -api.MaxNumber, api.MaxNumber + 1}[r.IntN(11)]
}

// TestManyCommands: bytes are a command's just where Put tells them again.
func TestManyCommands(t *testing.T) {
	r := rand.New(rand.NewPCG(101, 102))
	counts := map[api.Errno]int{}
	for range 50000 {
		c := command.Command{Kind: 1 + r.IntN(18), Who: "a", Name: someText(r), Other: someText(r), Text: someText(r), Word: someTexts(r)}
		for k := range c.Nums {
			c.Nums[k] = someNumber(r)
		}
		s := command.Put(c)
		if (s != "") != command.Good(c) {
			t.Fatal(told(c))
		}
		if s == "" {
			continue
		}
		if got, err := command.Get(s); err != api.OK || told(got) != told(c) {
			t.Fatal(told(c), told(got), err)
		}
		s = spoil(r, s)
		got, err := command.Get(s)
		counts[err]++
		if err == api.OK && command.Put(got) != s || err != api.OK && told(got) != nothing {
			t.Fatalf("%x: %s %d", s, told(got), err)
		}
	}
	t.Log(counts)
	for _, err := range []api.Errno{api.OK, api.ErrForm, api.ErrShort, api.ErrTail} {
		if counts[err] < 100 {
			t.Error("one-sided bytes:", err, counts[err])
		}
	}
}

// TestManyReplies: bytes are a reply's just where PutReply tells them again; and replies are the same just where their bytes are.
func TestManyReplies(t *testing.T) {
	r := rand.New(rand.NewPCG(103, 104))
	counts := map[api.Errno]int{}
	some := func() command.Reply {
		x := command.Reply{Code: api.Errno(r.IntN(23) - 1), Line: r.IntN(2), Col: r.IntN(2), Count: someNumber(r), Text: someText(r), Texts: someTexts(r)}
		for range r.IntN(3) {
			x.Marks = append(x.Marks, []float64{0, math.Copysign(0, -1), 1, math.NaN(), math.Inf(1)}[r.IntN(5)])
		}
		return x
	}
	same := 0
	for range 50000 {
		x, y := some(), some()
		if r.IntN(2) == 0 {
			y = x
			y.Marks = slices.Clone(x.Marks)
			for k, f := range y.Marks {
				if r.IntN(2) == 0 && f == 0 {
					y.Marks[k] = -f
				}
			}
		}
		s, u := command.PutReply(x), command.PutReply(y)
		if s == "" || u == "" {
			continue
		}
		if command.Same(x, y) != (s == u) {
			t.Fatal(toldReply(x), toldReply(y))
		}
		if s == u {
			same++
		}
		s = spoil(r, s)
		got, err := command.GetReply(s)
		counts[err]++
		if err == api.OK && command.PutReply(got) != s || err != api.OK && toldReply(got) != noReply {
			t.Fatalf("%x: %s %d", s, toldReply(got), err)
		}
	}
	t.Log(counts, same)
	for _, err := range []api.Errno{api.OK, api.ErrForm, api.ErrShort, api.ErrTail} {
		if counts[err] < 100 || same < 100 {
			t.Error("one-sided bytes:", err, counts[err])
		}
	}
}
