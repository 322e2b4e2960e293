package roll_test

import (
	"fmt"
	"maps"
	"math/rand/v2"
	"slices"
	"strings"
	"testing"

	"primer/api"
	"primer/roll"
)

// A register keeps what a roll does, in maps that are changed as they stand.
type register struct {
	role, quota map[string]int
	teacher     map[string]string
	students    map[string]map[string]bool
}

func newRegister() *register {
	return &register{map[string]int{}, map[string]int{}, map[string]string{}, map[string]map[string]bool{}}
}

func (g *register) told() string {
	var l []string
	for _, name := range slices.Sorted(maps.Keys(g.role)) {
		l = append(l, fmt.Sprint(name, "/", g.role[name], "/", g.quota[name]))
	}
	for _, name := range slices.Sorted(maps.Keys(g.teacher)) {
		l = append(l, fmt.Sprint(name, "=", g.teacher[name], ":", strings.Join(slices.Sorted(maps.Keys(g.students[name])), ",")))
	}
	return strings.Join(l, " ")
}

func (g *register) teaches(teacher, student string) bool {
	for class, by := range g.teacher {
		if by == teacher && g.students[class][student] {
			return true
		}
	}
	return false
}

// first error of some that go with whether they hold.
func first(errs ...any) api.Errno {
	for k := 0; k < len(errs); k += 2 {
		if errs[k].(bool) {
			return errs[k+1].(api.Errno)
		}
	}
	return api.OK
}

func bad(name string) bool {
	return name == "" || name == "9"
}

func (g *register) people(kind, a string, number int) api.Errno {
	role := g.role[a]
	switch kind {
	case "enrol":
		err := first(bad(a), api.ErrName, number < 1 || number > 2, api.ErrKind, role > 0, api.ErrExists, len(g.role) == api.MaxMembers, api.ErrQuota)
		if err == api.OK {
			g.role[a], g.quota[a] = number, 4096
		}
		return err
	case "leave":
		err := first(role == 0, api.ErrNone, slices.Contains(slices.Collect(maps.Values(g.teacher)), a), api.ErrState)
		if err == api.OK {
			delete(g.role, a)
			delete(g.quota, a)
			for _, students := range g.students {
				delete(students, a)
			}
		}
		return err
	}
	err := first(role == 0, api.ErrNone, number < 0 || number > 65536, api.ErrArg)
	if err == api.OK {
		g.quota[a] = number
	}
	return err
}

func (g *register) classes(kind, a, b string) api.Errno {
	_, is := g.teacher[a]
	role, in := g.role[b], g.students[a][b]
	switch kind {
	case "open":
		err := first(bad(a), api.ErrName, is, api.ErrExists, role == 0, api.ErrNone, role == 1, api.ErrRole, len(g.teacher) == api.MaxClasses, api.ErrQuota)
		if err == api.OK {
			g.teacher[a], g.students[a] = b, map[string]bool{}
		}
		return err
	case "close":
		delete(g.teacher, a)
		delete(g.students, a)
		return first(!is, api.ErrNone)
	case "join":
		err := first(!is || role == 0, api.ErrNone, role == 2, api.ErrRole, in, api.ErrExists)
		if err == api.OK {
			g.students[a][b] = true
		}
		return err
	}
	delete(g.students[a], b)
	return first(!in, api.ErrNone)
}

// line of words at random, of few names.
func line(r *rand.Rand, names int) (kind, a, b string, number int) {
	one := func() string {
		if r.IntN(20) == 0 {
			return []string{"", "9"}[r.IntN(2)]
		}
		k := r.IntN(names)
		return string(rune('A'+k%5*8)) + strings.Repeat("b", k/5)
	}
	kind = []string{"enrol", "enrol", "enrol", "enrol", "leave", "grant", "open", "open", "open", "close", "join", "join", "join", "join", "part", "part"}[r.IntN(16)]
	number = r.IntN(4)
	if kind == "grant" {
		number = []int{0, 1, 4096, 65535, 65536, 65537, -1}[r.IntN(7)]
	}
	return kind, one(), one(), number
}

func TestMany(t *testing.T) {
	r := rand.New(rand.NewPCG(81, 82))
	counts := map[string]int{}
	for range 300 {
		names := 2 + r.IntN(6)
		g := newRegister()
		var have roll.Roll
		for range 300 {
			kind, a, b, number := line(r, names)
			var want api.Errno
			text := kind + " " + a + " " + b
			if slices.Contains([]string{"enrol", "leave", "grant"}, kind) {
				want = g.people(kind, a, number)
				text = fmt.Sprint(kind, " ", a, " ", number)
			} else {
				want = g.classes(kind, a, b)
			}
			next, err := change(have, text)
			if err != want {
				t.Fatal(told(have), text, err, want)
			}
			counts[fmt.Sprint(kind, " ", err)]++
			if err == api.OK {
				have = next
			} else if told(next) != "" {
				t.Fatal(text, told(next))
			}
			if told(have) != g.told() {
				t.Fatal(text, told(have), "not", g.told())
			}
			if have.Teaches(a, b) != g.teaches(a, b) {
				t.Fatal(told(have), a, b)
			}
		}
		if got, err := roll.Get(roll.Put(have)); err != api.OK || told(got) != told(have) {
			t.Fatal(told(have), told(got), err)
		}
	}
	t.Log(counts)
	for _, kind := range []string{"enrol 0", "enrol 7", "enrol 8", "enrol 9", "leave 0", "leave 10", "leave 16", "grant 0", "grant 1", "grant 10", "open 0", "open 8", "open 9", "open 10", "open 13", "close 0", "close 10", "join 0", "join 9", "join 10", "join 13", "part 0", "part 10"} {
		if counts[kind] < 50 {
			t.Error("one-sided lines:", kind, counts[kind])
		}
	}
}

// TestManyBytes: bytes that are a roll's, spoilt in a place or two, are a roll just where Put tells them again.
func TestManyBytes(t *testing.T) {
	r := rand.New(rand.NewPCG(83, 84))
	good, bad := 0, 0
	for range 30000 {
		s := []byte(roll.Put(small(t)))
		for range 1 + r.IntN(2) {
			k := r.IntN(len(s))
			switch r.IntN(4) {
			case 0:
				s[k] = byte(r.IntN(256))
			case 1:
				s[k] += byte(r.IntN(5) - 2)
			case 2:
				s = slices.Delete(s, k, k+1)
			case 3:
				s = slices.Insert(s, k, byte(r.IntN(128)))
			}
		}
		got, err := roll.Get(string(s))
		if err == api.OK {
			good++
			if roll.Put(got) != string(s) || !is(got) {
				t.Fatalf("%x: %s", s, told(got))
			}
			continue
		}
		bad++
		if told(got) != "" {
			t.Fatal(told(got))
		}
	}
	t.Log(good, bad)
	if good < 1000 || bad < 1000 {
		t.Error("one-sided bytes:", good, bad)
	}
}

// is it a roll? That is one that its own lines make.
func is(r roll.Roll) bool {
	var made roll.Roll
	var ok = api.OK
	do := func(next roll.Roll, err api.Errno) {
		made = next
		ok = max(ok, err)
	}
	for _, m := range r.Members {
		do(made.Enrol(m.Name, m.Role))
		do(made.Grant(m.Name, m.Quota))
	}
	for _, c := range r.Classes {
		do(made.Open(c.Name, c.Teacher))
		for _, student := range c.Students {
			do(made.Join(c.Name, student))
		}
	}
	return ok == api.OK && told(made) == told(r)
}
