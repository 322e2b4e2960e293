package lang_test

import (
	"math/rand/v2"
	"slices"
	"strconv"
	"testing"

	"primer/api"
	"primer/facts"
	"primer/lang"
	"primer/plain"
)

func random(r *rand.Rand, names, terms, rows, wide int) plain.Grammar {
	var p plain.Grammar
	for k := range names {
		p.Names = append(p.Names, "N"+strconv.Itoa(k))
	}
	for k := range terms {
		p.Terms = append(p.Terms, string(rune('a'+k)))
	}
	p.Start = r.IntN(names)
	for left := range names {
		for range r.IntN(rows + 1) {
			prod := plain.Prod{Left: left}
			for range r.IntN(wide + 1) {
				prod.Right = append(prod.Right, r.IntN(names+terms)-terms)
			}
			p.Prods = append(p.Prods, prod)
		}
	}
	return p
}

// parts: of each nonterminal the parts of a word that it derives, from a place to a place: found by trying all productions again and again.
func parts(p plain.Grammar, word []int) [][][]bool {
	size := len(word) + 1
	l := make([][][]bool, len(p.Names))
	for a := range l {
		l[a] = make([][]bool, size)
		for from := range l[a] {
			l[a][from] = make([]bool, size)
		}
	}
	for more := true; more; {
		more = false
		for _, prod := range p.Prods {
			for from := range size {
				for _, to := range ends(l, word, prod.Right, from) {
					if !l[prod.Left][from][to] {
						l[prod.Left][from][to] = true
						more = true
					}
				}
			}
		}
	}
	return l
}

func ends(l [][][]bool, word, right []int, from int) []int {
	at := []int{from}
	for _, symbol := range right {
		var next []int
		for to := range len(word) + 1 {
			if slices.ContainsFunc(at, func(k int) bool {
				if symbol < 0 {
					return to == k+1 && word[k] == -1-symbol
				}
				return l[symbol][k][to]
			}) {
				next = append(next, to)
			}
		}
		at = next
	}
	return at
}

// all words of so many terminals, up to a length, in order.
func all(terms, most int) [][]int {
	words := [][]int{nil}
	for k := 0; k < len(words) && terms > 0; k++ {
		if len(words[k]) < most {
			for t := range terms {
				words = append(words, append(slices.Clone(words[k]), t))
			}
		}
	}
	return words
}

// standing: which nonterminals stand in a derivation from the start of any word.
func standing(p plain.Grammar) []bool {
	generating := facts.Generating(p)
	stands := make([]bool, len(p.Names))
	stands[p.Start] = generating[p.Start]
	for range p.Names {
		for _, prod := range p.Prods {
			barren := func(symbol int) bool { return symbol >= 0 && !generating[symbol] }
			if stands[prod.Left] && !slices.ContainsFunc(prod.Right, barren) {
				for _, symbol := range prod.Right {
					if symbol >= 0 {
						stands[symbol] = true
					}
				}
			}
		}
	}
	return stands
}

// slowWords of each nonterminal.
func slowWords(p plain.Grammar, most int) [][][]int {
	l := make([][][]int, len(p.Names))
	for _, word := range all(len(p.Terms), most) {
		for a, part := range parts(p, word) {
			if part[0][len(word)] {
				l[a] = append(l[a], word)
			}
		}
	}
	return l
}

func TestManyGrammars(t *testing.T) {
	r := rand.New(rand.NewPCG(31, 32))
	counts := map[int]int{}
	for range 6000 {
		p := random(r, 1+r.IntN(5), r.IntN(3), 4, 4)
		most := r.IntN(6)
		want := slowWords(p, most)
		words, err := lang.Words(p, most)
		if err != api.OK || !slices.EqualFunc(words, want[p.Start], slices.Equal[[]int]) {
			t.Fatal(plain.Lines(p), p.Start, most, words, err, want[p.Start])
		}
		for _, word := range all(len(p.Terms), most) {
			_, in := slices.BinarySearchFunc(words, word, byOrder)
			if lang.Derives(p, word) != in {
				t.Fatal(plain.Lines(p), p.Start, word, in)
			}
		}
		counts[min(len(words), 3)]++
	}
	if len(counts) != 4 || counts[2] < 20 || counts[3] < 500 {
		t.Error("one-sided grammars:", counts)
	}
}

// TestManyLongWords: grammars of words that some production or other makes, and words of them with a terminal changed.
func TestManyLongWords(t *testing.T) {
	r := rand.New(rand.NewPCG(33, 34))
	yes, no := 0, 0
	for range 1500 {
		p := random(r, 1+r.IntN(6), 1+r.IntN(3), 4, 5)
		word := derived(r, p, r.IntN(30))
		if len(word) > 0 && r.IntN(2) == 0 {
			word[r.IntN(len(word))] = r.IntN(len(p.Terms))
		}
		want := parts(p, word)[p.Start][0][len(word)]
		if lang.Derives(p, word) != want {
			t.Fatal(plain.Lines(p), p.Start, word, want)
		}
		if len(word) > 2 && want {
			yes++
		}
		if len(word) > 2 && !want {
			no++
		}
	}
	if yes < 100 || no < 100 {
		t.Error("one-sided words:", yes, no)
	}
}

// derived: a word that the start derives, by steps that aim at a length; any word, when they come to none.
func derived(r *rand.Rand, p plain.Grammar, aim int) []int {
	l := []int{p.Start}
	for range 300 {
		at := slices.IndexFunc(l, func(symbol int) bool { return symbol >= 0 })
		if at < 0 {
			break
		}
		var rows [][]int
		for _, prod := range p.Prods {
			if prod.Left == l[at] && len(l)+len(prod.Right) <= max(aim, len(l)) {
				rows = append(rows, prod.Right)
			}
		}
		if len(rows) == 0 {
			break
		}
		l = slices.Replace(l, at, at+1, rows[r.IntN(len(rows))]...)
	}
	word := make([]int, len(l))
	for k, symbol := range l {
		if word[k] = -1 - symbol; symbol >= 0 {
			word[k] = r.IntN(len(p.Terms))
		}
	}
	return word
}

// rich: a grammar of many words.
func rich(r *rand.Rand) plain.Grammar {
	p := random(r, 2+r.IntN(3), 4, 1, 2)
	for left := range p.Names {
		if left != p.Start {
			p.Prods = append(p.Prods, to(left, r.IntN(len(p.Names)), r.IntN(len(p.Names))))
		}
		for t := range 4 {
			if r.IntN(10) > 3 {
				p.Prods = append(p.Prods, to(left, -1-t))
			}
		}
	}
	slices.SortStableFunc(p.Prods, func(a, b plain.Prod) int { return a.Left - b.Left })
	return p
}

// TestManyQuotas: grammars near as many words as may be, of any nonterminal that counts.
func TestManyQuotas(t *testing.T) {
	r := rand.New(rand.NewPCG(35, 36))
	refused, near := 0, 0
	for range 150 {
		p := rich(r)
		words, err := lang.Words(p, 6)
		if err == api.OK && len(words) < 300 && r.IntN(8) > 0 {
			continue // few words are held against slow ones elsewhere
		}
		many := api.OK
		want, stands := slowWords(p, 6), standing(p)
		for a := range want {
			if stands[a] && len(want[a]) > api.MaxWords {
				many = api.ErrLong
			}
		}
		if err != many || many == api.OK && !slices.EqualFunc(words, want[p.Start], slices.Equal[[]int]) {
			t.Fatal(plain.Lines(p), p.Start, len(words), err, many)
		}
		if many != api.OK {
			refused++
		} else if len(words) > 500 {
			near++
		}
	}
	t.Log("refused and near:", refused, near)
	if refused < 3 || near < 3 {
		t.Error("one-sided grammars:", refused, near)
	}
}

// TestManySame: grammars are the same just where they have the same words.
func TestManySame(t *testing.T) {
	r := rand.New(rand.NewPCG(37, 38))
	alike := 0
	for range 20000 {
		p, q := random(r, 1+r.IntN(2), 2, 2, 2), random(r, 1+r.IntN(2), 2, 2, 2)
		a, _ := lang.Words(p, 4)
		b, _ := lang.Words(q, 4)
		want := slices.EqualFunc(a, b, slices.Equal[[]int])
		if same, err := lang.Same(p, q, 4); same != want || err != api.OK {
			t.Fatal(plain.Lines(p), plain.Lines(q), same, err)
		}
		q = turned(p)
		if same, err := lang.Same(p, q, 4); !same || err != api.OK {
			t.Fatal(plain.Lines(p), plain.Lines(q), same, err)
		}
		if want && len(a) > 1 {
			alike++
		}
	}
	if alike < 30 {
		t.Error("one-sided grammars:", alike)
	}
}

// turned: the same grammar, with its two terminals' numbers turned.
func turned(p plain.Grammar) plain.Grammar {
	q := p
	q.Terms = []string{p.Terms[1], p.Terms[0]}
	q.Prods = nil
	for _, prod := range p.Prods {
		right := slices.Clone(prod.Right)
		for k := range right {
			if right[k] < 0 {
				right[k] = -3 - right[k]
			}
		}
		q.Prods = append(q.Prods, to(prod.Left, right...))
	}
	return q
}

// TestLargest: grammars as large as may be, whose words are many, or none, are answered soon.
func TestLargest(t *testing.T) {
	var ring, wide, rests plain.Grammar
	for k := range api.MaxProds {
		for _, p := range []*plain.Grammar{&ring, &wide, &rests} {
			p.Names = append(p.Names, "n"+strconv.Itoa(k))
		}
		ring.Prods = append(ring.Prods, to(k, (k+1)%api.MaxProds))
		wide.Prods = append(wide.Prods, to(k, slices.Repeat([]int{(k + 1) % api.MaxProds}, api.MaxSide)...))
		rests.Prods = append(rests.Prods, to(k, append([]int{min(k+1, api.MaxProds-3)}, slices.Repeat([]int{api.MaxProds - 1}, api.MaxSide-1)...)...))
	}
	for _, p := range []*plain.Grammar{&ring, &wide, &rests} {
		p.Terms = []string{"x", "y"}
	}
	ring.Prods[255].Right = []int{-1}
	wide.Prods[255].Right = []int{-1}
	rests.Prods[255].Right = nil
	rests.Prods[254].Right = []int{-1, api.MaxProds - 2}
	rests.Prods = append(rests.Prods[:253], to(253, api.MaxProds-2, -2, api.MaxProds-2), rests.Prods[254], rests.Prods[255])
	for what, p := range map[string]plain.Grammar{"ring": ring, "wide": wide, "rests": rests} {
		for _, most := range []int{0, 1, 16, api.MaxWord} {
			if _, err := lang.Words(p, most); err != api.OK {
				t.Error(what, most, err)
			}
			lang.Derives(p, make([]int, most))
		}
	}
	if !lang.Derives(ring, []int{0}) || lang.Derives(wide, []int{0}) {
		t.Error("large")
	}
}
