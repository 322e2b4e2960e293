package roll_test

import (
	"fmt"
	"math"
	"reflect"
	"slices"
	"strings"
	"testing"

	"primer/api"
	"primer/octets"
	"primer/roll"
)

// told: a roll as a text, and the same text for the same rolls alone, where names are good.
func told(r roll.Roll) string {
	var l []string
	for _, m := range r.Members {
		l = append(l, fmt.Sprint(m.Name, "/", m.Role, "/", m.Quota))
	}
	for _, c := range r.Classes {
		l = append(l, fmt.Sprint(c.Name, "=", c.Teacher, ":", strings.Join(c.Students, ",")))
	}
	return strings.Join(l, " ")
}

// change a roll by a line of words.
func change(r roll.Roll, line string) (roll.Roll, api.Errno) {
	words := append(strings.Split(line, " "), "", "", "")
	number := 0
	fmt.Sscan(words[2], &number)
	switch words[0] {
	case "enrol":
		return r.Enrol(words[1], number)
	case "leave":
		return r.Leave(words[1])
	case "grant":
		return r.Grant(words[1], number)
	case "open":
		return r.Open(words[1], words[2])
	case "close":
		return r.Close(words[1])
	case "join":
		return r.Join(words[1], words[2])
	case "part":
		return r.Part(words[1], words[2])
	}
	panic(line)
}

// school: the roll of some lines, all of which have to hold.
func school(t *testing.T, lines ...string) roll.Roll {
	t.Helper()
	var r roll.Roll
	for _, line := range lines {
		next, err := change(r, line)
		if err != api.OK {
			t.Fatal(line, err)
		}
		r = next
	}
	return r
}

func small(t *testing.T) roll.Roll {
	return school(t, "enrol Tim 2", "enrol ann 1", "enrol Bob 1", "enrol tea 2", "enrol cy 1", "open maths tea", "open art Tim", "open Zoo tea",
		"join maths cy", "join maths ann", "join art ann", "join maths Bob", "grant ann 7")
}

const smallTold = "Bob/1/4096 Tim/2/4096 ann/1/7 cy/1/4096 tea/2/4096 Zoo=tea: art=Tim:ann maths=tea:Bob,ann,cy"

func TestChanges(t *testing.T) {
	if got := told(small(t)); got != smallTold {
		t.Fatal(got)
	}
	for _, c := range []struct{ line, want string }{
		{"enrol abe 2", "Bob/1/4096 Tim/2/4096 abe/2/4096 ann/1/7 cy/1/4096 tea/2/4096 Zoo=tea: art=Tim:ann maths=tea:Bob,ann,cy"},
		{"enrol A 1", "A/1/4096 Bob/1/4096 Tim/2/4096 ann/1/7 cy/1/4096 tea/2/4096 Zoo=tea: art=Tim:ann maths=tea:Bob,ann,cy"},
		{"enrol zed 1", "Bob/1/4096 Tim/2/4096 ann/1/7 cy/1/4096 tea/2/4096 zed/1/4096 Zoo=tea: art=Tim:ann maths=tea:Bob,ann,cy"},
		{"enrol maths 1", "Bob/1/4096 Tim/2/4096 ann/1/7 cy/1/4096 maths/1/4096 tea/2/4096 Zoo=tea: art=Tim:ann maths=tea:Bob,ann,cy"},
		{"leave ann", "Bob/1/4096 Tim/2/4096 cy/1/4096 tea/2/4096 Zoo=tea: art=Tim: maths=tea:Bob,cy"},
		{"leave Bob", "Tim/2/4096 ann/1/7 cy/1/4096 tea/2/4096 Zoo=tea: art=Tim:ann maths=tea:ann,cy"},
		{"grant ann 65536", "Bob/1/4096 Tim/2/4096 ann/1/65536 cy/1/4096 tea/2/4096 Zoo=tea: art=Tim:ann maths=tea:Bob,ann,cy"},
		{"grant tea 0", "Bob/1/4096 Tim/2/4096 ann/1/7 cy/1/4096 tea/2/0 Zoo=tea: art=Tim:ann maths=tea:Bob,ann,cy"},
		{"open ann Tim", "Bob/1/4096 Tim/2/4096 ann/1/7 cy/1/4096 tea/2/4096 Zoo=tea: ann=Tim: art=Tim:ann maths=tea:Bob,ann,cy"},
		{"open zen tea", "Bob/1/4096 Tim/2/4096 ann/1/7 cy/1/4096 tea/2/4096 Zoo=tea: art=Tim:ann maths=tea:Bob,ann,cy zen=tea:"},
		{"close art", "Bob/1/4096 Tim/2/4096 ann/1/7 cy/1/4096 tea/2/4096 Zoo=tea: maths=tea:Bob,ann,cy"},
		{"join Zoo cy", "Bob/1/4096 Tim/2/4096 ann/1/7 cy/1/4096 tea/2/4096 Zoo=tea:cy art=Tim:ann maths=tea:Bob,ann,cy"},
		{"join art Bob", "Bob/1/4096 Tim/2/4096 ann/1/7 cy/1/4096 tea/2/4096 Zoo=tea: art=Tim:Bob,ann maths=tea:Bob,ann,cy"},
		{"part maths ann", "Bob/1/4096 Tim/2/4096 ann/1/7 cy/1/4096 tea/2/4096 Zoo=tea: art=Tim:ann maths=tea:Bob,cy"},
		{"part art ann", "Bob/1/4096 Tim/2/4096 ann/1/7 cy/1/4096 tea/2/4096 Zoo=tea: art=Tim: maths=tea:Bob,ann,cy"},
	} {
		r := small(t)
		if got, err := change(r, c.line); err != api.OK || told(got) != c.want {
			t.Errorf("%s: %s %d, not %s", c.line, told(got), err, c.want)
		}
		if told(r) != smallTold {
			t.Fatal(c.line, "changed it:", told(r))
		}
	}
}

func TestRefuses(t *testing.T) {
	long := strings.Repeat("n", api.MaxName)
	for _, c := range []struct {
		line string
		want api.Errno
	}{
		{"enrol  1", api.ErrName}, {"enrol 1a 1", api.ErrName}, {"enrol a.b 1", api.ErrName}, {"enrol -a 2", api.ErrName}, {"enrol " + long + "n 1", api.ErrName}, {"enrol " + long + " 1", api.OK},
		{"enrol 1a 3", api.ErrName}, {"enrol new 0", api.ErrKind}, {"enrol new 3", api.ErrKind}, {"enrol new -1", api.ErrKind}, {"enrol new 9223372036854775807", api.ErrKind},
		{"enrol ann 3", api.ErrKind}, {"enrol ann 1", api.ErrExists}, {"enrol ann 2", api.ErrExists}, {"enrol tea 2", api.ErrExists},
		{"leave nobody", api.ErrNone}, {"leave ", api.ErrNone}, {"leave An", api.ErrNone}, {"leave zz", api.ErrNone}, {"leave maths", api.ErrNone}, {"leave tea", api.ErrState}, {"leave Tim", api.ErrState},
		{"grant nobody 5", api.ErrNone}, {"grant nobody -1", api.ErrNone}, {"grant ann -1", api.ErrArg}, {"grant ann 65537", api.ErrArg}, {"grant tea -9223372036854775808", api.ErrArg}, {"grant ann 9223372036854775807", api.ErrArg},
		{"open  tea", api.ErrName}, {"open a_ tea", api.OK}, {"open _ nobody", api.ErrName}, {"open " + long + "n tea", api.ErrName}, {"open " + long + " tea", api.OK},
		{"open maths nobody", api.ErrExists}, {"open maths tea", api.ErrExists}, {"open maths ann", api.ErrExists}, {"open new nobody", api.ErrNone}, {"open new ", api.ErrNone}, {"open new maths", api.ErrNone},
		{"open new ann", api.ErrRole}, {"close nothing", api.ErrNone}, {"close ann", api.ErrNone}, {"close ", api.ErrNone},
		{"join nothing ann", api.ErrNone}, {"join nothing nobody", api.ErrNone}, {"join nothing tea", api.ErrNone}, {"join maths nobody", api.ErrNone}, {"join maths tea", api.ErrRole}, {"join Zoo Tim", api.ErrRole},
		{"join maths ann", api.ErrExists}, {"join maths Bob", api.ErrExists}, {"join maths cy", api.ErrExists},
		{"part nothing ann", api.ErrNone}, {"part Zoo ann", api.ErrNone}, {"part maths nobody", api.ErrNone}, {"part maths tea", api.ErrNone}, {"part art Bob", api.ErrNone}, {"part art cy", api.ErrNone},
	} {
		r := small(t)
		got, err := change(r, c.line)
		if err != c.want || err != api.OK && (got.Members != nil || got.Classes != nil) {
			t.Errorf("%s: %s %d, not %d", c.line, told(got), err, c.want)
		}
		if told(r) != smallTold {
			t.Fatal(c.line, "changed it:", told(r))
		}
	}
	for line, want := range map[string]api.Errno{"leave a": api.ErrNone, "grant a 1": api.ErrNone, "open a b": api.ErrNone, "close a": api.ErrNone, "join a b": api.ErrNone, "part a b": api.ErrNone} {
		if got, err := change(roll.Roll{}, line); err != want || told(got) != "" {
			t.Error(line, told(got), err)
		}
	}
	if _, err := change(school(t, "enrol s 1"), "open c s"); err != api.ErrRole { // the chapter's own
		t.Error(err)
	}
}

func name(k int) string {
	return fmt.Sprintf("n%03d", k)
}

// full: as many members as may be, students and teachers by turns, with as many classes, in each of which all students are.
func full(t *testing.T) roll.Roll {
	var lines []string
	for k := range api.MaxMembers {
		lines = append(lines, fmt.Sprint("enrol ", name(api.MaxMembers-1-k), " ", 1+k%2)) // the first one is a teacher
	}
	for k := range api.MaxClasses {
		lines = append(lines, "open "+name(k)+" "+name(2*k))
		for m := 1; m < api.MaxMembers; m += 2 {
			lines = append(lines, "join "+name(k)+" "+name(m))
		}
	}
	return school(t, lines...)
}

func TestLimits(t *testing.T) {
	r := full(t)
	if len(r.Members) != api.MaxMembers || len(r.Classes) != api.MaxClasses || len(r.Classes[31].Students) != 128 {
		t.Fatal(told(r))
	}
	for line, want := range map[string]api.Errno{
		"enrol m 1": api.ErrQuota, "enrol z 2": api.ErrQuota, "enrol n000 2": api.ErrExists, "enrol m 3": api.ErrKind, "enrol 1 1": api.ErrName,
		"open m n000": api.ErrQuota, "open m n001": api.ErrRole, "open m m": api.ErrNone, "open n000 n000": api.ErrExists, "open 1 n000": api.ErrName,
	} {
		if _, err := change(r, line); err != want {
			t.Error(line, err)
		}
	}
	for _, lines := range [][2]string{{"leave n255", "enrol m 1"}, {"close n031", "open m n000"}} {
		less, err := change(r, lines[0])
		if err != api.OK {
			t.Fatal(lines, err)
		}
		again, err := change(less, lines[1])
		if err != api.OK || len(again.Members) != api.MaxMembers || len(again.Classes) != api.MaxClasses {
			t.Error(lines, err)
		}
	}
	if got, err := roll.Get(roll.Put(r)); err != api.OK || told(got) != told(r) {
		t.Error("Get of Put:", err)
	}
}

func TestLookUp(t *testing.T) {
	r := small(t)
	for _, want := range r.Members {
		if m, ok := r.Member(want.Name); !ok || m != want {
			t.Error(want, m, ok)
		}
	}
	for _, want := range r.Classes {
		if c, ok := r.Class(want.Name); !ok || !reflect.DeepEqual(c, want) {
			t.Error(want, c, ok)
		}
	}
	for _, name := range []string{"", "A", "an", "anna", "zz", "tim", "teA", "\xff"} {
		if m, ok := r.Member(name); ok || m != (roll.Member{}) {
			t.Error(name, m, ok)
		}
		if c, ok := r.Class(name); ok || !reflect.DeepEqual(c, roll.Class{}) {
			t.Error(name, c, ok)
		}
	}
	if _, ok := r.Member("maths"); ok {
		t.Error("a class as a member")
	}
	if _, ok := r.Class("ann"); ok {
		t.Error("a member as a class")
	}
	if _, ok := (roll.Roll{}).Member("ann"); ok {
		t.Error("a member of none")
	}
	if _, ok := (roll.Roll{}).Class("maths"); ok {
		t.Error("a class of none")
	}
}

func TestTeaches(t *testing.T) {
	r := small(t)
	for line, want := range map[string]bool{
		"tea ann": true, "tea Bob": true, "tea cy": true, "Tim ann": true, "Tim Bob": false, "Tim cy": false, "tea tea": false, "tea Tim": false, "ann tea": false, "ann ann": false,
		"ann Bob": false, "nobody ann": false, "tea nobody": false, " ": false, "tea ": false, " ann": false,
	} {
		teacher, student, _ := strings.Cut(line, " ")
		if got := r.Teaches(teacher, student); got != want || (roll.Roll{}).Teaches(teacher, student) {
			t.Error(line, got)
		}
	}
}

// TestValues: what is made of a roll leaves it as it was, and so do changes of what was answered.
func TestValues(t *testing.T) {
	lines := []string{"enrol a 1", "enrol z 2", "leave cy", "leave ann", "grant tea 1", "open a tea", "open z Tim", "close Zoo", "close maths", "join Zoo ann", "join Zoo cy", "join art Bob", "join art cy", "part maths Bob", "part maths cy", "part art ann"}
	r := small(t)
	var made []roll.Roll
	var tells []string
	for _, line := range lines {
		next, err := change(r, line)
		if err != api.OK {
			t.Fatal(line, err)
		}
		made = append(made, next)
		tells = append(tells, told(next))
	}
	for k := range made {
		if told(made[k]) != tells[k] {
			t.Error(lines[k], "was changed by a later change")
		}
	}
	for k := range made {
		spoil(made[k])
		if told(r) != smallTold {
			t.Fatal(lines[k], "shares with what it was made of")
		}
	}
	c, _ := r.Class("maths")
	spoil(roll.Roll{Classes: []roll.Class{c}})
	if told(r) != smallTold {
		t.Error("Class shares with the roll")
	}
}

// spoil all of a roll, the room behind its lists included.
func spoil(r roll.Roll) {
	for k := range r.Classes {
		l := r.Classes[k].Students
		for n := range l[:cap(l)] {
			l[:cap(l)][n] = "spoilt"
		}
	}
	clear(r.Members[:cap(r.Members)])
	clear(r.Classes[:cap(r.Classes)])
}

// TestRoom: the room behind a list that is handed in is left as it is.
func TestRoom(t *testing.T) {
	r := small(t)
	r.Members = append(r.Members, roll.Member{Name: "behind"})[:len(r.Members)]
	r.Classes = append(r.Classes, roll.Class{Name: "behind"})[:len(r.Classes)]
	for k := range r.Classes {
		l := r.Classes[k].Students
		r.Classes[k].Students = append(slices.Clone(l), "behind")[:len(l)]
	}
	for _, line := range []string{"enrol zz 1", "enrol a 1", "leave ann", "leave cy", "grant cy 8", "open zz tea", "open a tea", "close art", "join Zoo ann", "join art cy", "part maths cy", "part maths Bob"} {
		if _, err := change(r, line); err != api.OK {
			t.Fatal(line, err)
		}
		behind := r.Members[:len(r.Members)+1][len(r.Members)].Name == "behind" && r.Classes[:len(r.Classes)+1][len(r.Classes)].Name == "behind"
		for _, c := range r.Classes {
			behind = behind && c.Students[:len(c.Students)+1][len(c.Students)] == "behind"
		}
		if !behind || told(r) != smallTold {
			t.Fatal(line)
		}
	}
}

// bytes of numbers, texts and lists of texts, one behind the other.
func bytes(things ...any) string {
	var o octets.Out
	for _, x := range things {
		switch x := x.(type) {
		case int:
			o.Int(x)
		case string:
			o.Text(x)
		case []string:
			o.Texts(x)
		}
	}
	s, ok := o.Bytes()
	if !ok {
		panic("no bytes")
	}
	return s
}

func TestPut(t *testing.T) {
	if got := roll.Put(roll.Roll{}); got != "\x00\x00" {
		t.Errorf("%x", got)
	}
	want := bytes(5, "Bob", 1, 4096, "Tim", 2, 4096, "ann", 1, 7, "cy", 1, 4096, "tea", 2, 4096, 3, "Zoo", "tea", []string{}, "art", "Tim", []string{"ann"}, "maths", "tea", []string{"Bob", "ann", "cy"})
	if got := roll.Put(small(t)); got != want {
		t.Errorf("%x, not %x", got, want)
	}
	if got := roll.Put(school(t, "enrol a 2", "open b a")); got != "\x01\x01\x01\x01a\x01\x02\x02\x10\x00\x01\x01\x01\x01b\x01\x01a\x00" {
		t.Errorf("%x", got)
	}
	long := strings.Repeat("x", api.MaxText+1)
	for what, r := range map[string]roll.Roll{
		"a name": {Members: []roll.Member{{Name: long}}}, "a role": {Members: []roll.Member{{Role: math.MaxInt}}}, "a quota": {Members: []roll.Member{{Quota: -api.MaxNumber - 1}}},
		"a class": {Classes: []roll.Class{{Name: long}}}, "a teacher": {Classes: []roll.Class{{Teacher: long}}}, "a student": {Classes: []roll.Class{{Students: []string{"a", long}}}},
		"students": {Classes: []roll.Class{{Students: make([]string, api.MaxText+1)}}},
	} {
		if got := roll.Put(r); got != "" {
			t.Errorf("%s: %x", what, got)
		}
	}
	handMade := roll.Roll{Members: []roll.Member{{"", -5, api.MaxNumber}, {"", 0, -1}}, Classes: []roll.Class{{"?", "", []string{"b", "a"}}}}
	if got := roll.Put(handMade); got != bytes(2, "", -5, api.MaxNumber, "", 0, -1, 1, "?", "", []string{"b", "a"}) {
		t.Errorf("%x", got)
	}
}

func TestGet(t *testing.T) {
	long, most := strings.Repeat("n", api.MaxName), make([]string, api.MaxMembers)
	for _, c := range []struct {
		what string
		s    string
		want api.Errno
	}{
		{"none", bytes(0, 0), api.OK},
		{"small", roll.Put(small(t)), api.OK},
		{"a member", bytes(1, "a", 1, 0, 0), api.OK},
		{"a long name", bytes(1, long, 2, api.MaxText, 0), api.OK},
		{"a name that is too long", bytes(1, long+"n", 2, 0, 0), api.ErrForm},
		{"no name", bytes(1, "", 1, 0, 0), api.ErrForm},
		{"a bad name", bytes(1, "a.", 1, 0, 0), api.ErrForm},
		{"no role", bytes(1, "a", 0, 0, 0), api.ErrForm},
		{"a role above", bytes(1, "a", 3, 0, 0), api.ErrForm},
		{"a role below", bytes(1, "a", -1, 0, 0), api.ErrForm},
		{"a quota below", bytes(1, "a", 1, -1, 0), api.ErrForm},
		{"a quota above", bytes(1, "a", 1, api.MaxText+1, 0), api.ErrForm},
		{"two alike", bytes(2, "a", 1, 0, "a", 1, 0, 0), api.ErrForm},
		{"falling", bytes(2, "b", 1, 0, "a", 1, 0, 0), api.ErrForm},
		{"rising, byte by byte", bytes(2, "B", 1, 0, "a", 1, 0, 0), api.OK},
		{"falling, byte by byte", bytes(2, "a", 1, 0, "B", 1, 0, 0), api.ErrForm},
		{"falling behind", bytes(3, "a", 1, 0, "c", 1, 0, "b", 1, 0, 0), api.ErrForm},
		{"a class", bytes(2, "a", 1, 0, "b", 2, 0, 1, "c", "b", []string{"a"}), api.OK},
		{"a class by a member's name", bytes(1, "b", 2, 0, 1, "b", "b", []string{}), api.OK},
		{"a bad class", bytes(1, "b", 2, 0, 1, "3", "b", []string{}), api.ErrForm},
		{"a student as a teacher", bytes(1, "b", 1, 0, 1, "c", "b", []string{}), api.ErrForm},
		{"nobody as a teacher", bytes(1, "b", 2, 0, 1, "c", "a", []string{}), api.ErrForm},
		{"no teacher", bytes(0, 1, "c", "", []string{}), api.ErrForm},
		{"a teacher as a student", bytes(1, "b", 2, 0, 1, "c", "b", []string{"b"}), api.ErrForm},
		{"nobody as a student", bytes(2, "a", 1, 0, "b", 2, 0, 1, "c", "b", []string{"a", "c"}), api.ErrForm},
		{"a student twice", bytes(2, "a", 1, 0, "b", 2, 0, 1, "c", "b", []string{"a", "a"}), api.ErrForm},
		{"students falling", bytes(3, "a", 1, 0, "b", 1, 0, "t", 2, 0, 1, "c", "t", []string{"b", "a"}), api.ErrForm},
		{"students rising", bytes(3, "a", 1, 0, "b", 1, 0, "t", 2, 0, 1, "c", "t", []string{"a", "b"}), api.OK},
		{"two classes alike", bytes(1, "b", 2, 0, 2, "c", "b", []string{}, "c", "b", []string{}), api.ErrForm},
		{"classes falling", bytes(1, "b", 2, 0, 2, "d", "b", []string{}, "c", "b", []string{}), api.ErrForm},
		{"classes rising", bytes(1, "b", 2, 0, 2, "c", "b", []string{}, "d", "b", []string{}), api.OK},
		// counts, at once
		{"members below", bytes(-1), api.ErrForm},
		{"members above", bytes(api.MaxMembers + 1), api.ErrForm},
		{"members, as many as may be", bytes(api.MaxMembers), api.ErrShort},
		{"members far above", bytes(api.MaxNumber), api.ErrForm},
		{"members far below", bytes(-api.MaxNumber), api.ErrForm},
		{"classes below", bytes(0, -1), api.ErrForm},
		{"classes above", bytes(0, api.MaxClasses+1), api.ErrForm},
		{"classes, as many as may be", bytes(0, api.MaxClasses), api.ErrShort},
		{"classes above, bytes behind", bytes(0, api.MaxClasses+1, -1, -1), api.ErrForm},
		{"members short, classes above", bytes(2, "a", 1, 0, "b", 1), api.ErrShort},
		// layer 1's errors come ahead
		{"empty", "", api.ErrShort},
		{"a bad number", "\x08", api.ErrForm},
		{"a bad member, then short", bytes(1, "?", 7, -1), api.ErrShort},
		{"a bad class, then short", bytes(0, 1, "?", ""), api.ErrShort},
		{"falling, then a bad number", bytes(2, "b", 1, 0, "a", 1, 0) + "\x80", api.ErrForm},
		{"a member short, its role no number", bytes(1, "a") + "\x09", api.ErrForm},
		{"a name's length", bytes(1, api.MaxText+1), api.ErrLong},
		{"a name's length below", bytes(1, -1), api.ErrForm},
		{"students above", bytes(0, 1, "?", "", api.MaxMembers+1), api.ErrLong},
		{"students as many as may be", bytes(0, 1, "?", "", most), api.ErrForm},
		{"students short", bytes(0, 1, "?", "", api.MaxMembers), api.ErrShort},
		{"students below", bytes(0, 1, "?", "", -1), api.ErrForm},
		// what is left comes last
		{"one left", bytes(0, 0, 0), api.ErrTail},
		{"one left behind small", roll.Put(small(t)) + "?", api.ErrTail},
		{"one left behind none", bytes(1, "a", 3, 0, 0) + "?", api.ErrForm},
	} {
		r, err := roll.Get(c.s)
		if err != c.want || err != api.OK && (r.Members != nil || r.Classes != nil) {
			t.Errorf("%s: %s %d, not %d", c.what, told(r), err, c.want)
		}
		if err == api.OK && roll.Put(r) != c.s {
			t.Error(c.what, told(r))
		}
	}
	s := roll.Put(small(t))
	for k := range s {
		if r, err := roll.Get(s[:k]); err != api.ErrShort || told(r) != "" {
			t.Error(k, told(r), err)
		}
	}
}
