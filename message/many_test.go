package message_test

import (
	"math/rand/v2"
	"slices"
	"strings"
	"testing"

	"primer/api"
	"primer/frame"
	"primer/message"
	"primer/octets"
)

func someNumber(r *rand.Rand) int {
	return []int{0, 1, 2, 3, 255, 256, api.MaxNumber}[r.IntN(7)]
}

func someEntry(r *rand.Rand) message.Entry {
	return message.Entry{Client: r.IntN(3), Number: 1 + r.IntN(300), Text: strings.Repeat("e", r.IntN(3))}
}

// someMessage is good most often.
func someMessage(r *rand.Rand, replicas int) message.Message {
	kind := 1 + r.IntN(12)
	m := message.Message{Kind: kind, Full: kind == message.RecoveryResponse && r.IntN(2) == 0}
	base := r.IntN(3)
	commit := base + r.IntN(3)
	op := max(1, commit+r.IntN(3))
	for _, name := range fields(m) {
		switch name {
		case "From":
			m.From = r.IntN(replicas)
		case "Born":
			m.Born = someNumber(r)
		case "Known":
			for range replicas {
				m.Known = append(m.Known, someNumber(r))
			}
		case "View":
			m.View = someNumber(r)
		case "Last":
			m.Last = min(m.View, someNumber(r))
		case "Op":
			m.Op = op
		case "Commit":
			m.Commit = commit
		case "Client":
			m.Client = r.IntN(3)
		case "Number":
			m.Number = max(1, someNumber(r))
		case "Nonce":
			m.Nonce = max(1, someNumber(r))
		case "Text":
			m.Text = strings.Repeat("t", r.IntN(3))
		case "Base":
			m.Base = base
		case "State":
			m.State = strings.Repeat("s", min(base, r.IntN(3)))
		case "Entry":
			m.Entries = append(m.Entries, someEntry(r))
		case "Entries":
			for range op - base {
				m.Entries = append(m.Entries, someEntry(r))
			}
		}
	}
	return m
}

// turn a thing or two of a message.
func turn(r *rand.Rand, m message.Message) message.Message {
	m.Known, m.Entries = slices.Clone(m.Known), slices.Clone(m.Entries)
	for range r.IntN(3) {
		n := someNumber(r) - r.IntN(2)
		place := []*int{&m.Kind, &m.From, &m.Born, &m.View, &m.Last, &m.Op, &m.Commit, &m.Client, &m.Number, &m.Nonce, &m.Base}
		switch k := r.IntN(len(place) + 5); k - len(place) {
		case 0:
			m.Text += "x"
		case 1:
			m.State += "x"
		case 2:
			m.Full = !m.Full
		case 3:
			m.Known = append(m.Known, n)[r.IntN(2):]
		case 4:
			m.Entries = append(m.Entries, message.Entry{Client: n, Number: 1})[r.IntN(2):]
		default:
			*place[k] = n
		}
	}
	return m
}

// TestManyMessages: Good and Put are as the chapter's table has it.
func TestManyMessages(t *testing.T) {
	r := rand.New(rand.NewPCG(231, 232))
	counts := map[bool]int{}
	for range 100000 {
		replicas := 3 + 2*r.IntN(3)
		m := turn(r, someMessage(r, replicas))
		want := slowGood(m, replicas)
		counts[want]++
		if got := message.Good(m, replicas); got != want {
			t.Fatal(told(m), replicas, got)
		}
		s := message.Put(m, replicas)
		if !want {
			if s != "" {
				t.Fatal(told(m), replicas)
			}
			continue
		}
		if s != slowPut(m) {
			t.Fatalf("%s: %x", told(m), s)
		}
		if got, err := message.Get(s, replicas); err != api.OK || told(got) != told(m) {
			t.Fatal(told(m), told(got), err)
		}
	}
	if counts[true] < 10000 || counts[false] < 10000 {
		t.Error("one-sided messages:", counts)
	}
}

// spoil some bytes in a place or two.
func spoil(r *rand.Rand, text string) string {
	s := []byte(text)
	for range r.IntN(4) {
		k := r.IntN(len(s))
		switch r.IntN(4) {
		case 0:
			s[k] = byte(r.IntN(256))
		case 1:
			s[k] += byte(r.IntN(5) - 2)
		case 2:
			s = slices.Delete(s, k, k+1)
		case 3:
			s = slices.Insert(s, k, byte(r.IntN(4)))
		}
		if len(s) == 0 {
			return ""
		}
	}
	return string(s)
}

// TestManyBodies: what stands in a frame is a message's, or the first that is wrong with it is told.
func TestManyBodies(t *testing.T) {
	r := rand.New(rand.NewPCG(233, 234))
	counts := map[api.Errno]int{}
	for range 80000 {
		replicas := 3 + 2*r.IntN(3)
		body, err := frame.Open(slowPut(someMessage(r, replicas)))
		if err != api.OK {
			t.Fatal(err)
		}
		body = spoil(r, body)
		if r.IntN(20) == 0 {
			body = octets.Put(r.IntN(16)-1) + body
		}
		want, wantErr := slowGet(body, replicas)
		counts[wantErr]++
		if got, err := message.Get(frame.Wrap(body), replicas); err != wantErr || told(got) != told(want) {
			t.Fatalf("%x: %s %d, not %s %d", body, told(got), err, told(want), wantErr)
		}
	}
	t.Log(counts)
	for _, err := range []api.Errno{api.OK, api.ErrForm, api.ErrShort, api.ErrTail, api.ErrKind} {
		if counts[err] < 1000 {
			t.Error("one-sided bodies:", err, counts[err])
		}
	}
}

// TestManySpoiltFrames: of a frame in which a byte to four in a row were changed, or that was cut off, no message is told.
func TestManySpoiltFrames(t *testing.T) {
	r := rand.New(rand.NewPCG(235, 236))
	for range 20000 {
		s := message.Put(someMessage(r, 3), 3)
		b := []byte(s)
		at := r.IntN(len(b))
		for k := at; k < min(len(b), at+1+r.IntN(4)); k++ {
			b[k] ^= byte(r.IntN(256))
		}
		wrong := string(b)
		if wrong == s {
			wrong = s[:at]
		}
		if m, err := message.Get(wrong, 3); err == api.OK || told(m) != nothing {
			t.Fatalf("%x of %x: %s %d", wrong, s, told(m), err)
		}
	}
}
