package oplog_test

import (
	"fmt"
	"maps"
	"math/rand/v2"
	"slices"
	"testing"

	"primer/api"
	"primer/command"
	"primer/message"
	"primer/oplog"
	"primer/school"
)

// A slow log: what stands at each number behind the base.
type slowLog struct {
	base, op int
	state    string
	at       map[int]message.Entry
}

func slow(l oplog.Log) slowLog {
	s := slowLog{base: l.Base, op: l.Base, state: l.State, at: map[int]message.Entry{}}
	for _, x := range l.Entries {
		s.op++
		s.at[s.op] = x
	}
	return s
}

// told as the log is that it stands for.
func (s slowLog) told() string {
	l := oplog.Log{Base: s.base, State: s.state}
	for op := s.base + 1; op <= s.op; op++ {
		l.Entries = append(l.Entries, s.at[op])
	}
	return told(l)
}

// behind: what is left of a log, of the numbers above the base.
func (s slowLog) behind(base int, state string) slowLog {
	n := slowLog{base: base, op: max(base, s.op), state: state, at: maps.Clone(s.at)}
	maps.DeleteFunc(n.at, func(op int, _ message.Entry) bool { return op <= base })
	return n
}

func someLog(r *rand.Rand) oplog.Log {
	l := oplog.Log{Base: r.IntN(6)}
	if l.Base > 0 {
		l.State = fmt.Sprint("state ", r.IntN(3))
	}
	for range r.IntN(5) {
		l.Entries = append(l.Entries, message.Entry{Client: r.IntN(3), Number: r.IntN(3)})
	}
	return l
}

// TestManyLogs: logs do as maps do, and what was made of them leaves them as they were.
func TestManyLogs(t *testing.T) {
	r := rand.New(rand.NewPCG(241, 242))
	counts := map[string]int{}
	for range 30000 {
		l, n := someLog(r), someLog(r)
		s, was := slow(l), told(l)
		op, client := r.IntN(14)-2, r.IntN(5)-1
		x := message.Entry{Client: r.IntN(3), Number: 9}
		added, cut, merged := l.Add(x), l, l.Merge(n)
		cut, ok := l.Cut(op, "cut")
		counts[fmt.Sprint("cut ", ok)]++
		wantAdded := s.behind(s.base, s.state)
		wantAdded.op++
		wantAdded.at[wantAdded.op] = x
		wantCut := s
		if s.base < op && op <= s.op {
			wantCut = s.behind(op, "cut")
		}
		wantMerged := slow(n)
		if n.Base < l.Base {
			wantMerged = wantMerged.behind(l.Base, l.State)
		}
		if told(added) != wantAdded.told() || told(cut) != wantCut.told() || told(merged) != wantMerged.told() || ok != (op > s.base && op <= s.op) {
			t.Fatal(was, told(n), op, told(added), told(cut), told(merged))
		}
		last, agree := 0, true
		for op, x := range s.at {
			if x.Client == client {
				last = max(last, x.Number)
			}
			y, both := slow(n).at[op]
			agree = agree && (!both || x == y)
			if got, ok := l.At(op); got != x || !ok {
				t.Fatal(was, op, got)
			}
		}
		counts[fmt.Sprint("agree ", agree)]++
		if got, ok := l.At(op); got != s.at[op] || ok != (s.base < op && op <= s.op) {
			t.Fatal(was, op, got, ok)
		}
		if l.Op() != s.op || l.Last(client) != last || oplog.Agree(l, n) != agree || oplog.Agree(n, l) != agree || !oplog.Agree(l, added) || told(l) != was {
			t.Fatal(was, told(n), client, l.Last(client), agree)
		}
	}
	for _, what := range []string{"cut true", "cut false", "agree true", "agree false"} {
		if counts[what] < 1000 {
			t.Error("one-sided logs:", counts)
		}
	}
}

// someText of a command, or of none.
func someText(r *rand.Rand) string {
	names := []string{"tea", "ann", "bob", "maths"}
	name := func() string { return names[r.IntN(len(names))] }
	c := command.Command{Kind: 1 + r.IntN(18), Who: name(), Name: name(), Other: name(), Nums: [4]int{1 + r.IntN(2)}}
	switch r.IntN(4) {
	case 0:
		c.Kind = command.Enrol
		c.Who = "tea"
	case 1:
		c.Kind, c.Text = command.Edit, []string{"a:'x'|;", "b:b|'y';", "c", ""}[r.IntN(4)]
	case 2:
		if r.IntN(4) == 0 {
			return command.Put(c)[1:]
		}
	}
	return command.Put(c)
}

// A slow machine keeps every entry that was applied, and does all of them again.
type slowMachine []message.Entry

func (l slowMachine) known(client int) (int, string) {
	s, number, told := school.New(), 0, ""
	for _, x := range l {
		r := command.Reply{}
		if c, err := command.Get(x.Text); err != api.OK {
			r.Code = err
		} else {
			r = s.Apply(c)
		}
		if x.Client == client {
			number, told = x.Number, command.PutReply(r)
		}
	}
	return number, told
}

// TestManyMachines: each client's Number is applied once at most, and a machine that is restored now and then goes on as one that isn't.
func TestManyMachines(t *testing.T) {
	r := rand.New(rand.NewPCG(243, 244))
	counts := map[bool]int{}
	codes := map[api.Errno]int{}
	for range 150 {
		m, other := oplog.New(), oplog.New()
		var applied slowMachine
		for k := range 40 {
			x := message.Entry{Client: r.IntN(5) - 1, Number: k/4 + r.IntN(5), Text: someText(r)}
			if k == 0 {
				x = ask(0, 1, enrol("tea", "tea", 2))
			}
			once := !slices.ContainsFunc(applied, func(y message.Entry) bool { return y.Client == x.Client && y.Number >= x.Number })
			once = once && x.Client >= 0 && x.Client < api.MaxClients && x.Number > 0
			got := m.Apply(x)
			counts[once]++
			if (got != "") != once || other.Apply(x) != got {
				t.Fatalf("%v: %x", x, got)
			}
			if once {
				applied = append(applied, x)
				told, err := command.GetReply(got)
				if err != api.OK {
					t.Fatal(err)
				}
				codes[told.Code]++
				if _, want := applied.known(x.Client); got != want {
					t.Fatalf("%v: %x, not %x", x, got, want)
				}
			}
			if r.IntN(3) == 0 {
				back, err := oplog.Restore(m.State())
				if err != api.OK || back.State() != m.State() {
					t.Fatal(err)
				}
				m = back
			}
			for client := range api.MaxClients {
				wantNumber, wantReply := applied.known(client)
				if number, reply := m.Known(client); number != wantNumber || reply != wantReply {
					t.Fatalf("%d: %d %x, not %d %x", client, number, reply, wantNumber, wantReply)
				}
			}
		}
		if m.State() != other.State() {
			t.Fatal("restored ones went on in another way")
		}
	}
	t.Log(counts, codes)
	if counts[true] < 500 || counts[false] < 500 || codes[api.OK] < 200 || len(codes) < 6 {
		t.Error("one-sided entries:", counts, codes)
	}
}

// spoil some bytes in a place or two.
func spoil(r *rand.Rand, text string) string {
	s := []byte(text)
	for range r.IntN(3) {
		k := r.IntN(len(s))
		switch r.IntN(4) {
		case 0:
			s[k] = byte(r.IntN(256))
		case 1:
			s[k] += byte(r.IntN(5) - 2)
		case 2:
			s = slices.Delete(s, k, k+1)
		case 3:
			s = slices.Insert(s, k, byte(r.IntN(4)))
		}
	}
	return string(s)
}

// TestManyStates: bytes are a machine's just where State tells them again.
func TestManyStates(t *testing.T) {
	r := rand.New(rand.NewPCG(245, 246))
	counts := map[api.Errno]int{}
	for range 20000 {
		m := oplog.New()
		for k := range r.IntN(5) {
			m.Apply(message.Entry{Client: r.IntN(3), Number: k + 1, Text: someText(r)})
		}
		s := spoil(r, m.State())
		back, err := oplog.Restore(s)
		counts[err]++
		if err == api.OK && back.State() != s || err != api.OK && back != nil {
			t.Fatalf("%x: %d", s, err)
		}
	}
	t.Log(counts)
	for _, err := range []api.Errno{api.OK, api.ErrForm, api.ErrShort, api.ErrTail} {
		if counts[err] < 100 {
			t.Error("one-sided bytes:", err, counts[err])
		}
	}
}
