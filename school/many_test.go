package school_test

import (
	"fmt"
	"math/rand/v2"
	"slices"
	"strings"
	"testing"

	"primer/api"
	"primer/command"
	"primer/school"
	"primer/task"
)

// one of some texts.
func one(r *rand.Rand, l ...string) string {
	return l[r.IntN(len(l))]
}

func someMember(r *rand.Rand) string {
	if r.IntN(20) == 0 {
		return one(r, "", "who", "maths")
	}
	return one(r, "tea", "Tim", "ann", "bob", "cy", "ann", "bob")
}

func someClass(r *rand.Rand) string {
	if r.IntN(20) == 0 {
		return one(r, "", "none", "ann")
	}
	return one(r, "maths", "art")
}

func someTask(r *rand.Rand) string {
	return one(r, "two", "clear", "odd", "more", "none")
}

func someWord(r *rand.Rand) []string {
	var l []string
	for range r.IntN(5) {
		l = append(l, one(r, "x", "x", "x", "y", "y", "'", "z", ""))
	}
	return l
}

// someGrammar: most are accepted; names have one length, so that the book can list them.
func someGrammar(r *rand.Rand) string {
	if r.IntN(12) == 0 {
		return one(r, "", "a", "a: b;", "a: 'x' ?? ;\nb", "a:\n 'x;", "a: ; a: ;", "a: \"\";")
	}
	if r.IntN(12) == 0 {
		return "a:" + strings.Repeat("'xxxxxxxxxxxxxxxx''yyyyyyyyyyyyyyyy'|", 1+r.IntN(230)) + ";"
	}
	return one(r, "a:'x'*;", "a:a a|'x';", "a:'x' 'x';", "a:b|c;b:'x' 'x';c:'x' c|'x';", "a:'x' a 'y'|;", "%b;a:'x';b:a 'y'|\"'\" b;", "a:a 'x';", "a:'y' 'x'?|b+;b:'x'|\"'\";c:b;", "a: ;", "a:'x'+ 'y'*;", "a:a|'x';", "a:'x'|'x' 'x'|'x' 'x' 'x';")
}

// someAssigned: a task as bytes, or none.
func someAssigned(r *rand.Rand) body {
	x := two(one(r, "two", "clear", "odd", "more"))
	switch x.Name {
	case "clear":
		x.Clear, x.Weight = true, 3
	case "odd":
		x = task.Task{Name: "odd", Yes: [][]string{{"x"}, {"x", "x", "x"}, {}}, No: [][]string{{"y"}, {"z", "'"}, {"x", "y"}}, Clear: true, Weight: 0.25}
	case "more":
		x.Weight, x.Yes = 0, [][]string{{"x", "y"}, {"y", "x"}}
	}
	s := put(x)
	if k := r.IntN(len(s)); r.IntN(8) == 0 {
		s = s[:k] + body(one(r, "", "\x00", "\xff")) + s[k+r.IntN(2):]
	}
	return s
}

// someCommand: of the office more often than of others, as far as these may give it.
func someCommand(r *rand.Rand) command.Command {
	who := someMember(r)
	boss := who
	if r.IntN(4) > 0 {
		boss = one(r, "tea", "tea", "Tim")
	}
	switch r.IntN(24) {
	case 0, 1:
		name := someMember(r)
		role := 1
		if name == "tea" || name == "Tim" {
			role = 2
		}
		if r.IntN(10) == 0 {
			role = r.IntN(4)
		}
		return of(command.Enrol, boss, name, role)
	case 2:
		if r.IntN(6) > 0 {
			return of(command.Show, who, someMember(r))
		}
		return of(command.Leave, boss, someMember(r))
	case 3:
		return of(command.Grant, boss, someMember(r), []int{0, 20, 4096, 4096, 65536, 65536, 65537, -1}[r.IntN(8)])
	case 4:
		return of(command.Open, boss, someClass(r))
	case 5:
		if r.IntN(8) > 0 {
			return of(command.Marks, who, someClass(r))
		}
		return of(command.Close, boss, someClass(r))
	case 6, 7, 8:
		return of(command.Join, boss, someClass(r), someMember(r))
	case 9:
		if r.IntN(2) > 0 {
			return of(command.Submit, who, someClass(r), someTask(r))
		}
		return of(command.Part, one(r, who, boss), someClass(r), one(r, who, someMember(r)))
	case 10:
		return of(command.Assign, boss, someClass(r), someAssigned(r))
	}
	return ofDraft(r, who)
}

func ofDraft(r *rand.Rand, who string) command.Command {
	switch r.IntN(13) {
	case 0, 1, 2:
		return of(command.Edit, who, body(someGrammar(r)))
	case 3:
		name := func() string { return one(r, "a", "b", "c", "d", "e", "") }
		return of(command.Change, who, name(), name(), []int{1, 1, 2, 2, 3, 3, 4, 0, 6}[r.IntN(9)], r.IntN(2), r.IntN(2), r.IntN(3))
	case 4:
		return of(command.Undo, who)
	case 5:
		return of(command.Redo, who)
	case 6:
		return of(command.List, who, one(r, "", who, someMember(r)))
	case 7, 8:
		return of(command.Parse, who, someWord(r))
	case 9:
		return of(command.Words, who, r.IntN(8)-1)
	case 10, 11:
		return of(command.Submit, who, someClass(r), someTask(r))
	}
	return of(command.Marks, who, someClass(r))
}

// opening: what a school begins with, if anything.
func opening(r *rand.Rand) []command.Command {
	l := []command.Command{of(command.Enrol, "tea", "tea", 2), of(command.Enrol, "tea", "ann", 1), of(command.Enrol, "tea", "Tim", 2), of(command.Enrol, "tea", "cy", 1), of(command.Enrol, "Tim", "bob", 1), of(command.Open, "tea", "maths"), of(command.Open, "Tim", "art"),
		of(command.Join, "tea", "maths", "ann"), of(command.Join, "tea", "maths", "cy"), of(command.Join, "Tim", "art", "bob"), of(command.Join, "Tim", "art", "ann"), of(command.Assign, "tea", "maths", put(two("two"))), of(command.Assign, "Tim", "art", put(two("clear")))}
	return l[:len(l)*min(2, r.IntN(8))/2]
}

// spoilt: now and then a command that isn't good, or too long.
func spoilt(r *rand.Rand, c command.Command) command.Command {
	switch r.IntN(100) {
	case 0:
		c.Kind = 19 * r.IntN(2)
	case 1:
		c.Text += strings.Repeat(" ", api.MaxCommand-r.IntN(50))
	case 2:
		c.Name = "?"
	}
	return c
}

// TestMany: a school answers what a book does, and keeps the same.
func TestMany(t *testing.T) {
	r := rand.New(rand.NewPCG(111, 112))
	counts := map[string]int{}
	for range 150 {
		s, b := school.New(), newBook()
		l := opening(r)
		for range 400 {
			l = append(l, spoilt(r, someCommand(r)))
		}
		for _, c := range l {
			reply := s.Apply(c)
			want, next := b.apply(c)
			if told(reply) != told(want) {
				t.Fatal(c, told(reply), "not", told(want))
			}
			b = next
			state := s.Snapshot()
			if state != b.bytes() {
				t.Fatalf("%v: %q, not %q", c, state, b.bytes())
			}
			counts[fmt.Sprint(c.Kind, " ", reply.Code)]++
			switch r.IntN(40) {
			case 0:
				s = s.Copy()
			case 1:
				again, err := school.Restore(state)
				if err != api.OK || again.Snapshot() != state {
					t.Fatal(err)
				}
				s = again
			}
		}
	}
	for kind := range 20 {
		var l []string
		for err := range api.ErrWord + 1 {
			if n := counts[fmt.Sprint(kind, " ", err)]; n > 0 {
				l = append(l, fmt.Sprint(int(err), ":", n))
			}
		}
		t.Log(kind, l)
	}
	for kind, codes := range map[int][]api.Errno{0: {1}, 1: {0, 7, 8, 9, 10, 13}, 2: {0, 10, 13, 16}, 3: {0, 1, 10, 13}, 4: {0, 8, 9, 10, 13}, 5: {0, 10, 13}, 6: {0, 9, 10, 13}, 7: {0, 10, 13}, 8: {0, 2, 3, 9, 10, 13},
		9: {0, 2, 6, 9, 10, 12}, 10: {0, 1, 7, 10, 12, 14, 16}, 11: {0, 16}, 12: {0, 16}, 13: {0, 10, 13}, 14: {0, 10, 13, 16}, 15: {0, 16}, 16: {0, 1, 16}, 17: {0, 10, 13, 16}, 18: {0, 10, 13}, 19: {1}} {
		for _, err := range codes {
			if counts[fmt.Sprint(kind, " ", err)] < 15 {
				t.Error("one-sided commands:", kind, err, counts[fmt.Sprint(kind, " ", err)])
			}
		}
	}
}

// TestManyBytes: bytes that are a school's, spoilt in a place or two, are a school's just where Snapshot tells them again.
func TestManyBytes(t *testing.T) {
	r := rand.New(rand.NewPCG(113, 114))
	s := done(t)
	must(t, s, of(command.Edit, "ann", body("b:'y';")), of(command.Edit, "ann", body("b:'z';")), of(command.Undo, "ann"))
	whole := s.Snapshot()
	counts := map[api.Errno]int{}
	for range 40000 {
		b := []byte(whole)
		for range 1 + r.IntN(2) {
			k := r.IntN(len(b))
			switch r.IntN(5) {
			case 0:
				b[k] = byte(r.IntN(256))
			case 1:
				b[k] += byte(r.IntN(5) - 2)
			case 2:
				b = slices.Delete(b, k, k+1)
			case 3:
				b = slices.Insert(b, k, byte(r.IntN(128)))
			case 4:
				b = b[:len(b)-r.IntN(9)]
			}
		}
		got, err := school.Restore(string(b))
		counts[err]++
		if (got == nil) != (err != api.OK) {
			t.Fatalf("%x: %d", b, err)
		}
		if got == nil {
			continue
		}
		if got.Snapshot() != string(b) {
			t.Fatalf("%x, not %x", got.Snapshot(), b)
		}
		again := s.Copy()
		for range 5 {
			got.Apply(someCommand(r))
			again.Apply(someCommand(r))
		}
		if s.Snapshot() != whole {
			t.Fatal("a copy changed it")
		}
	}
	t.Log(counts)
	for _, err := range []api.Errno{api.OK, api.ErrForm, api.ErrShort, api.ErrLong, api.ErrTail} {
		if counts[err] < 50 {
			t.Error("one-sided bytes:", err, counts[err])
		}
	}
}
