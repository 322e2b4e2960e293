package message_test

import (
	"encoding/hex"
	"math"
	"reflect"
	"slices"
	"strings"
	"testing"

	"primer/api"
	"primer/frame"
	"primer/message"
	"primer/octets"
)

// A sample of a message, and its body in hexadecimal digits.
type sample struct {
	m    message.Message
	body string
}

// two entries, and their bytes.
func two() []message.Entry {
	return []message.Entry{{Client: 2, Number: 300, Text: "ab"}, {Client: 0, Number: 1}}
}

const twoBytes = "0102 02012c 01026162 00 0101 00"

// samples: a message of each kind among three replicas, with something in all of its fields, and a RecoveryResponse that isn't Full.
func samples() []sample {
	of := func(m message.Message) message.Message {
		m.From, m.Born, m.Known = 2, 9, []int{0, 256, 9}
		return m
	}
	const from = "0102 0109 00 020100 0109 "
	return []sample{
		{message.Message{Kind: message.Request, Client: 1, Number: 3, Text: "\xff"}, "0101 0101 0103 0101ff"},
		{of(message.Message{Kind: message.Prepare, View: 4, Op: 8, Commit: 7, Entries: two()[:1]}), "0102" + from + "0104 0108 0107 0102 02012c 01026162"},
		{of(message.Message{Kind: message.PrepareOK, View: 4, Op: 8}), "0103" + from + "0104 0108"},
		{of(message.Message{Kind: message.Reply, View: 4, Client: 1, Number: 3, Text: "no"}), "0104" + from + "0104 0101 0103 01026e6f"},
		{of(message.Message{Kind: message.Commit, View: 4, Op: 8, Commit: 7}), "0105" + from + "0104 0108 0107"},
		{of(message.Message{Kind: message.StartViewChange, View: 4}), "0106" + from + "0104"},
		{of(message.Message{Kind: message.DoViewChange, View: 4, Last: 3, Op: 8, Commit: 7, Base: 6, State: "s", Entries: two()}), "0107" + from + "0104 0103 0108 0107 0106 010173 0102" + twoBytes},
		{of(message.Message{Kind: message.StartView, View: 4, Op: 8, Commit: 7, Base: 6, State: "s", Entries: two()}), "0108" + from + "0104 0108 0107 0106 010173 0102" + twoBytes},
		{of(message.Message{Kind: message.Recovery, Nonce: 9}), "0109" + from + "0109"},
		{of(message.Message{Kind: message.RecoveryResponse, View: 4, Nonce: 9, Full: true, Op: 8, Commit: 7, Base: 6, State: "s", Entries: two()}), "010a" + from + "0104 0109 01 0108 0107 0106 010173 0102" + twoBytes},
		{of(message.Message{Kind: message.RecoveryResponse, View: 4, Nonce: 9}), "010a" + from + "0104 0109 00"},
		{of(message.Message{Kind: message.GetState, View: 4, Op: 8}), "010b" + from + "0104 0108"},
		{of(message.Message{Kind: message.NewState, View: 4, Op: 8, Commit: 7, Base: 6, State: "s", Entries: two()}), "010c" + from + "0104 0108 0107 0106 010173 0102" + twoBytes},
	}
}

// raw: bytes of hexadecimal digits.
func raw(t *testing.T, digits string) string {
	t.Helper()
	b, err := hex.DecodeString(strings.ReplaceAll(digits, " ", ""))
	if err != nil {
		t.Fatal(err)
	}
	return string(b)
}

func TestKinds(t *testing.T) {
	kinds := []int{message.Request, message.Prepare, message.PrepareOK, message.Reply, message.Commit, message.StartViewChange,
		message.DoViewChange, message.StartView, message.Recovery, message.RecoveryResponse, message.GetState, message.NewState}
	for k, kind := range kinds {
		if kind != k+1 {
			t.Error(k+1, kind)
		}
	}
}

func TestPut(t *testing.T) {
	recovery := message.Message{Kind: message.Recovery, From: 2, Born: 9, Known: []int{0, 0, 0}, Nonce: 9}
	bare := message.Message{Kind: message.StartView, Known: make([]int, 3)}
	for _, x := range append(samples(), sample{recovery, "0109 0102 0109 000000 0109"}, sample{bare, "0108 00 00 000000 00 00 00 00 00 00"}) {
		want := frame.Wrap(raw(t, x.body))
		if got := message.Put(x.m, 3); got != want || !message.Good(x.m, 3) {
			t.Errorf("%s: %x, not %x", told(x.m), got, want)
		}
		if got, err := message.Get(want, 3); err != api.OK || told(got) != told(x.m) {
			t.Errorf("%x: %s, not %s, %d", want, told(got), told(x.m), err)
		}
	}
}

func TestReplicas(t *testing.T) {
	for _, replicas := range []int{math.MinInt, -3, 0, 1, 2, 3, 4, 5, 6, 7, 8, 9, math.MaxInt} {
		right := replicas == 3 || replicas == 5 || replicas == 7
		for _, x := range samples() {
			if right && x.m.Known != nil {
				x.m.Known = make([]int, replicas)
				x.m.From = replicas - 1
			}
			if message.Good(x.m, replicas) != right || (message.Put(x.m, replicas) != "") != right {
				t.Error(replicas, told(x.m))
			}
			if !right {
				for _, s := range []string{message.Put(x.m, 3), "", "\x08"} {
					if m, err := message.Get(s, replicas); err != api.ErrArg || told(m) != nothing {
						t.Error(replicas, told(m), err)
					}
				}
				continue
			}
			if got, err := message.Get(message.Put(x.m, replicas), replicas); err != api.OK || told(got) != told(x.m) {
				t.Error(replicas, told(got), err)
			}
			if x.m.Known == nil {
				continue
			}
			wrong := x.m
			wrong.From = replicas
			if message.Good(wrong, replicas) {
				t.Error(replicas, "a replica that isn't there")
			}
			for _, size := range []int{0, replicas - 1, replicas + 1} {
				wrong := x.m
				wrong.Known = make([]int, size)
				if message.Good(wrong, replicas) {
					t.Error(replicas, size, "known")
				}
			}
		}
	}
}

// TestFields puts odd things into each field of each kind.
func TestFields(t *testing.T) {
	counts := map[bool]int{}
	check := func(m message.Message) {
		t.Helper()
		want := slowGood(m, 3)
		counts[want]++
		if got := message.Good(m, 3); got != want {
			t.Error(told(m), got)
		}
		s := message.Put(m, 3)
		if (s != "") != want || want && s != slowPut(m) {
			t.Errorf("%s: %x", told(m), s)
		}
	}
	numbers := []int{0, 1, 2, 3, 4, 5, 6, 7, 8, 9, api.MaxNumber - 1, api.MaxNumber, api.MaxNumber + 1, -1, math.MinInt, math.MaxInt}
	texts := []string{"", "a", strings.Repeat("x", api.MaxCommand), strings.Repeat("x", api.MaxCommand+1), strings.Repeat("x", api.MaxText), strings.Repeat("x", api.MaxText+1)}
	for _, x := range samples() {
		for k := range reflect.TypeOf(x.m).NumField() {
			m := x.m
			f := reflect.ValueOf(&m).Elem().Field(k)
			switch f.Kind() {
			case reflect.Int:
				for _, n := range numbers {
					f.SetInt(int64(n))
					check(m)
				}
			case reflect.String:
				for _, s := range texts {
					f.SetString(s)
					check(m)
				}
			case reflect.Bool:
				f.SetBool(!f.Bool())
				check(m)
			}
		}
		for _, n := range numbers {
			for k := range 3 {
				m := x.m
				m.Known = []int{1, 1, 1}
				m.Known[k] = n
				check(m)
			}
			m := x.m
			m.Entries = two()
			m.Entries[1].Client = n
			check(m)
			m.Entries = two()
			m.Entries[1].Number = n
			check(m)
			m.Entries = slices.Repeat(two(), 5)[:min(max(n, 0), 10)]
			check(m)
		}
		for _, s := range texts {
			m := x.m
			m.Entries = two()
			m.Entries[0].Text = s
			check(m)
			m.Entries = m.Entries[:1]
			check(m)
		}
	}
	if counts[true] < 200 || counts[false] < 200 {
		t.Error("one-sided messages:", counts)
	}
}

// largest: a message with as much of all as may be.
func largest() message.Message {
	m := message.Message{Kind: message.NewState, From: 6, Born: api.MaxNumber, Known: slices.Repeat([]int{api.MaxNumber}, 7), View: api.MaxNumber,
		Op: api.MaxNumber, Commit: api.MaxNumber, Base: api.MaxNumber - api.MaxBatch, State: strings.Repeat("s", api.MaxText)}
	for range api.MaxBatch {
		m.Entries = append(m.Entries, message.Entry{Client: 2, Number: api.MaxNumber, Text: strings.Repeat("t", api.MaxCommand)})
	}
	return m
}

func TestLargest(t *testing.T) {
	m := largest()
	s := message.Put(m, 7)
	if got, err := message.Get(s, 7); s == "" || err != api.OK || told(got) != told(m) {
		t.Error(len(s), err)
	}
	m.Base--
	m.Entries = append(m.Entries, m.Entries[0])
	if message.Good(m, 7) || message.Put(m, 7) != "" {
		t.Error("a batch too large")
	}
	if m, err := message.Get(slowPut(m), 7); err != api.ErrForm || told(m) != nothing {
		t.Error(told(m), err)
	}
}

func TestGetOfNoFrame(t *testing.T) {
	s := message.Put(samples()[0].m, 3)
	turned := []byte(s)
	turned[2] ^= 4
	for _, x := range []struct {
		s    string
		want api.Errno
	}{
		{"", api.ErrShort}, {"\x08", api.ErrForm}, {"\x81\x01", api.ErrForm}, {s[:len(s)-1], api.ErrShort}, {s + "\x00", api.ErrTail}, {string(turned), api.ErrSum},
		{octets.Put(api.MaxFrame+1) + s, api.ErrLong},
	} {
		if m, err := message.Get(x.s, 3); err != x.want || told(m) != nothing {
			t.Errorf("%x: %s %d, not %d", x.s, told(m), err, x.want)
		}
	}
}

func TestGetOfWrongBodies(t *testing.T) {
	const view = "0108 00 00 000000 00 " // a StartView's beginning
	for _, x := range []struct {
		body string
		want api.Errno
	}{
		{"", api.ErrShort},
		{"08", api.ErrForm}, // layer 1's
		{"01", api.ErrShort},
		{"00", api.ErrKind}, {"8101", api.ErrKind}, {"010d", api.ErrKind}, {"07ffffffffffffff", api.ErrForm}, {"0720000000000000", api.ErrKind},
		{"00 08", api.ErrKind}, {"010d 00 00 000000", api.ErrKind}, // also with something behind it
		{"0101", api.ErrShort}, {"0101 00 0101 01", api.ErrShort}, {"0101 00 0101 0101", api.ErrShort},
		{"0101 00 0101 8101", api.ErrForm}, {"0101 00 0101 03010001", api.ErrLong}, {"0101 00 0101 03010000", api.ErrShort},
		{"0101 00 0101 00", api.OK},
		{"0101 00 0101 00 00", api.ErrTail},
		{"0101 00 00 00 00", api.ErrForm},       // Number 0, ahead of what is left
		{"0101 0103 0101 00", api.ErrForm},      // Client 3
		{"0101 8101 0101 00", api.ErrForm},      // Client -1
		{"0101 0103 0101", api.ErrShort},        // layer 1's error is ahead of ErrForm
		{"0106 0103 00 000000 00", api.ErrForm}, // From 3
		{"0106 0102 8101 000000 00", api.ErrForm},
		{"0106 0102 00 00810100 00", api.ErrForm},
		{"0106 0102 00 0000", api.ErrShort},
		{"0106 0102 00 000000", api.ErrShort},
		{"010a 0102 00 000000 00 0101 02", api.ErrForm}, // a yes or no that is none
		{"010a 0102 00 000000 00 0101 00 00", api.ErrTail},
		{"010a 0102 00 000000 00 0101 01", api.ErrShort},
		{"010a 0102 00 000000 00 0101 01 00 00 00 00 00", api.OK},
		{view + "00 00 00 00 00", api.OK},
		{view + "00 00 00 00 8101", api.ErrForm},            // fewer than no entries
		{view + "00 00 00 00 8101 00", api.ErrForm},         // also with something behind it
		{view + "00 00 00 00 0101 00 0101 00", api.ErrForm}, // more than Op says
		{view + "0101 00 00 00 00", api.ErrForm},            // fewer than Op says
		{view + "0101 00 00 00 0101 00 0101 00", api.OK},
		{view + "0101 00 00 00 0101 00 0101", api.ErrShort},
		{view + "0101 00 00 00 0141" + strings.Repeat("00 0101 00", 65), api.ErrForm},
		{view + "0101 00 00 00 0141" + strings.Repeat("00 0101 00", 64), api.ErrShort}, // layer 1's error comes first
		{view + "0101 00 00 00 0720000000000000", api.ErrShort},
		{view + "0101 0101 0101 00 00", api.OK},
		{view + "0101 0101 00 010178 0101 00 0101 00", api.ErrForm}, // a State without a Base
		{view + "0101 00 0101 00 00", api.ErrForm},                  // a Base above Commit
	} {
		s := frame.Wrap(raw(t, x.body))
		m, err := message.Get(s, 3)
		if err != x.want || err != api.OK && told(m) != nothing || err == api.OK && message.Put(m, 3) != s {
			t.Errorf("%s: %s %d, not %d", x.body, told(m), err, x.want)
		}
	}
}

func TestKept(t *testing.T) {
	for _, x := range samples() {
		was := told(x.m)
		room := append(slices.Clone(x.m.Entries), message.Entry{Client: 1, Number: 77})
		x.m.Entries = room[:len(room)-1]
		s := message.Put(x.m, 3)
		message.Good(x.m, 3)
		if told(x.m) != was || room[len(room)-1].Number != 77 {
			t.Error("changed:", was, told(x.m))
		}
		a, _ := message.Get(s, 3)
		b, _ := message.Get(s, 3)
		clear(a.Known)
		clear(a.Entries)
		if told(b) != was {
			t.Error("shared:", was, told(b))
		}
	}
}
