package network_test

import (
	"encoding/binary"
	"math"
	"math/big"
	"math/rand/v2"
	"slices"
	"testing"

	"primer/network"
)

// A shelf is a slow network: frames stand under the number that they were sent with.
type shelf struct {
	sent   int
	frames map[int]network.Frame
}

// key of the i-th frame.
func (s *shelf) key(i int) (int, bool) {
	var keys []int
	for k := range s.frames {
		keys = append(keys, k)
	}
	if len(keys) == 0 {
		return 0, false
	}
	slices.Sort(keys)
	return keys[modulo(i, len(keys))], true
}

func modulo(i, n int) int {
	return int(new(big.Int).Mod(big.NewInt(int64(i)), big.NewInt(int64(n))).Int64())
}

func (s *shelf) put(f network.Frame) bool {
	if len(s.frames) >= 1024 {
		return false
	}
	s.sent++
	s.frames[s.sent] = f
	return true
}

func (s *shelf) spoil(i, at int, by uint32) bool {
	k, ok := s.key(i)
	f := s.frames[k]
	if !ok || f.Spoilt || len(f.Bytes) == 0 {
		return false
	}
	a := modulo(at, len(f.Bytes))
	b := append([]byte(f.Bytes), 0, 0, 0)
	binary.LittleEndian.PutUint32(b[a:], binary.LittleEndian.Uint32(b[a:])^by)
	f.Bytes, f.Spoilt = string(b[:len(f.Bytes)]), string(b[:len(f.Bytes)]) != f.Bytes
	s.frames[k] = f
	return f.Spoilt
}

// someInt: mostly small, now and then as great as may be.
func someInt(r *rand.Rand) int {
	switch r.IntN(8) {
	case 0:
		return int(r.Uint64())
	case 1:
		return []int{math.MinInt, math.MaxInt, math.MinInt + 1, 0}[r.IntN(4)]
	}
	return r.IntN(2200) - 1100
}

func someBy(r *rand.Rand) uint32 {
	return r.Uint32() >> (8 * r.IntN(5)) << (8 * r.IntN(5))
}

// TestManyFrames: a network is held against the shelf.
func TestManyFrames(t *testing.T) {
	r := rand.New(rand.NewPCG(261, 262))
	counts := map[string]int{}
	for range 6 {
		n, s := &network.Net{}, &shelf{frames: map[int]network.Frame{}}
		often := 2 + r.IntN(8)
		for range 3000 {
			i := someInt(r)
			k, there := s.key(i)
			got, want, what := false, false, ""
			switch c := r.IntN(4 + often); c {
			case 0:
				what = "take"
				f, ok := n.Take(i)
				got, want = ok && f == s.frames[k], there
				delete(s.frames, k)
			case 1:
				what = "look"
				f, ok := n.Look(i)
				got, want = ok && f == s.frames[k], there
			case 2, 3:
				what = "spoil"
				at, by := someInt(r), someBy(r)
				got, want = n.Spoil(i, at, by), s.spoil(i, at, by)
			case 4:
				what = "double"
				got, want = n.Double(i), there && s.put(s.frames[k])
			default:
				what = "send"
				b := make([]byte, r.IntN(7))
				for k := range b {
					b[k] = byte(r.Uint32())
				}
				f := network.Frame{From: someInt(r), To: someInt(r), Bytes: string(b)}
				got, want = n.Send(f.From, f.To, f.Bytes), s.put(f)
			}
			if got != want || n.Count() != len(s.frames) {
				t.Fatal(what, i, got, want, n.Count(), len(s.frames))
			}
			counts[what]++
			if !got {
				counts["no "+what]++
			}
		}
		for i := range n.Count() {
			k, _ := s.key(i)
			if f, _ := n.Look(i); f != s.frames[k] {
				t.Fatal(i, f, s.frames[k])
			}
		}
	}
	t.Log(counts)
	for what, least := range map[string]int{"take": 800, "look": 800, "spoil": 800, "double": 800, "send": 800, "no spoil": 100, "no double": 50, "no send": 50} {
		if counts[what] < least {
			t.Error("one-sided frames:", what, counts[what])
		}
	}
}
