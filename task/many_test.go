package task_test

import (
	"math"
	"math/rand/v2"
	"slices"
	"strings"
	"testing"

	"primer/api"
	"primer/cnf"
	"primer/draft"
	"primer/lang"
	"primer/marks"
	"primer/task"
)

// trees of a nonterminal and a word that isn't empty, counted one by one.
func trees(g cnf.Grammar, a int, word []int) int {
	count := 0
	for _, prod := range g.Prods {
		if prod.Left != a {
			continue
		}
		if len(prod.Right) == 1 {
			if len(word) == 1 && prod.Right[0] == -1-word[0] {
				count++
			}
			continue
		}
		for between := 1; between < len(word); between++ {
			if ahead := trees(g, prod.Right[0], word[:between]); ahead > 0 {
				count += ahead * trees(g, prod.Right[1], word[between:])
			}
		}
	}
	return count
}

// right: has a grammar a word right?
func right(m draft.Made, texts []string, yes, unambiguous bool) bool {
	var word []int
	known := true
	for _, text := range texts {
		at := slices.Index(m.Plain.Terms, text)
		known = known && at >= 0
		word = append(word, at)
	}
	derived := known && lang.Derives(m.Plain, word)
	if !yes {
		return !derived
	}
	return derived && !(unambiguous && len(word) > 0 && trees(m.Normal, m.Normal.Start, word) > 1)
}

func body(r *rand.Rand, deep int) string {
	if deep == 0 || r.IntN(4) == 0 {
		return []string{"a", "b", "'x'", "'x'", "'y'", ""}[r.IntN(6)]
	}
	s := body(r, deep-1) + []string{" ", " ", "|"}[r.IntN(3)] + body(r, deep-1)
	return []string{"(" + s + ")", "(" + s + ")", "[" + s + "]", "{" + s + "}", "(" + s + ")+"}[r.IntN(5)]
}

func someTask(r *rand.Rand) task.Task {
	t := task.Task{Name: "t", Clear: r.IntN(2) == 0, Weight: float64(r.IntN(3))}
	for range 1 + r.IntN(8) {
		var word []string
		for range r.IntN(5) {
			word = append(word, []string{"x", "x", "x", "x", "y", "y", "y", "z"}[r.IntN(8)])
		}
		if r.IntN(2) == 0 {
			t.Yes = append(t.Yes, word)
		} else {
			t.No = append(t.No, word)
		}
	}
	return t
}

func TestManyGrades(t *testing.T) {
	r := rand.New(rand.NewPCG(101, 102))
	rights, wrongs, several := 0, 0, 0
	for range 3000 {
		m := made(t, "a:"+body(r, 3)+";b:"+body(r, 3)+";")
		c := someTask(r)
		var want task.Report
		for k, texts := range slices.Concat(c.Yes, c.No) {
			yes := k < len(c.Yes)
			want.All++
			if right(m, texts, yes, c.Clear) {
				want.Right++
				continue
			}
			want.Wrong = append(want.Wrong, k)
			if yes && right(m, texts, true, false) {
				several++
			}
		}
		want.Mark = float64(want.Right) * 100 / float64(want.All)
		got, err := task.Grade(m, c)
		if err != api.OK || shown(got) != shown(want) {
			t.Fatal(m.Text, told(c), shown(got), shown(want), err)
		}
		rights += want.Right
		wrongs += len(want.Wrong)
	}
	t.Log(rights, wrongs, several)
	if rights < 3000 || wrongs < 3000 || several < 200 {
		t.Error("one-sided grades:", rights, wrongs, several)
	}
}

// TestManyTotals: each mark counts as often as its task weighs.
func TestManyTotals(t *testing.T) {
	r := rand.New(rand.NewPCG(103, 104))
	for range 3000 {
		var l []task.Task
		var values, repeated []float64
		for range r.IntN(6) {
			weight, value := r.IntN(4), float64(r.IntN(100))
			if r.IntN(5) == 0 {
				value = math.NaN()
			}
			l = append(l, task.Task{Weight: float64(weight)})
			values = append(values, value)
			repeated = append(repeated, slices.Repeat([]float64{value}, weight)...)
		}
		want, _ := marks.Mean(repeated)
		if got, err := task.Total(l, values); err != api.OK || marks.Compare(got, want) != 0 {
			t.Fatal(values, repeated, got, want, err)
		}
	}
}

// good: is it a task? That is told in another way here.
func good(x task.Task) bool {
	l := slices.Concat(x.Yes, x.No)
	longest, widest, narrowest := 0, 0, 1
	for _, texts := range l {
		longest = max(longest, len(texts))
		for _, text := range texts {
			widest, narrowest = max(widest, len(text)), min(narrowest, len(text))
		}
	}
	_, named := draft.Accept(x.Name+":;", api.MaxText)
	return named.Code == api.OK && strings.Trim(x.Name, " \t\n\r#;:'") == x.Name && len(l) > 0 && len(l) <= 64 && longest <= 64 && widest <= 16 && narrowest > 0 && x.Weight <= math.MaxFloat64 && !math.Signbit(x.Weight)
}

// TestManyBytes: bytes that are a task's, spoilt in a place or two, are a task just where Put tells them again.
func TestManyBytes(t *testing.T) {
	r := rand.New(rand.NewPCG(105, 106))
	yes, no := 0, 0
	for range 100000 {
		s := []byte(task.Put(someTask(r)))
		for range 1 + r.IntN(2) {
			k := r.IntN(len(s))
			switch r.IntN(4) {
			case 0:
				s[k] = byte(r.IntN(256))
			case 1:
				s[k] += byte(r.IntN(5) - 2)
			case 2:
				s = slices.Delete(s, k, k+1)
			case 3:
				s = slices.Insert(s, k, byte(r.IntN(128)))
			}
		}
		got, err := task.Get(string(s))
		if err == api.OK {
			yes++
			if task.Put(got) != string(s) || !good(got) {
				t.Fatalf("%x: %s", s, told(got))
			}
			continue
		}
		no++
		if told(got) != nothing {
			t.Fatal(told(got))
		}
	}
	t.Log(yes, no)
	if yes < 10000 || no < 10000 {
		t.Error("one-sided bytes:", yes, no)
	}
}

// TestManyParts: a word's parts, one behind the other, as the texts of another: what is a word hangs on where its texts end.
func TestManyParts(t *testing.T) {
	m := made(t, "S:'x' 'y'|'xy' 'x';")
	r := rand.New(rand.NewPCG(107, 108))
	counts := [2]int{}
	for range 2000 {
		s := "xyx"[:2+r.IntN(2)]
		var texts []string
		for s != "" {
			n := 1 + r.IntN(len(s))
			texts = append(texts, s[:n])
			s = s[n:]
		}
		want := 0
		if line := strings.Join(texts, " "); line == "x y" || line == "xy x" {
			want = 1
		}
		got, err := task.Grade(m, task.Task{Name: "a", Yes: [][]string{texts}})
		if err != api.OK || got.Right != want {
			t.Fatal(texts, got, err)
		}
		counts[want]++
	}
	if min(counts[0], counts[1]) < 100 {
		t.Error("one-sided words:", counts)
	}
}

// TestLargest: a task of as many words of as many texts as may be, of a grammar that has many trees of each.
func TestLargest(t *testing.T) {
	m := made(t, "S:S S|'x'|'y';")
	var word []string
	for k := range api.MaxWord {
		word = append(word, []string{"x", "y"}[k%2])
	}
	x := task.Task{Name: "a", Yes: slices.Repeat([][]string{word}, 32), No: slices.Repeat([][]string{word}, 32)}
	for unambiguous, want := range map[bool]int{false: 32, true: 0} {
		x.Clear = unambiguous
		if got, err := task.Grade(m, x); err != api.OK || got.Right != want || got.All != 64 || len(got.Wrong) != 64-want {
			t.Error(unambiguous, got, err)
		}
	}
}
