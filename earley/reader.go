package earley

import (
	"math/bits"
	"slices"

	"primer/facts"
	"primer/plain"
)

// A reader goes through a word's places from the left.
type reader struct {
	p        plain.Grammar
	prods    [][]int // of each nonterminal those without a symbol that derives no word: so whatever is begun can be brought to an end
	nullable []bool
	places   []*place
	todo     []step
}

// A step is left to take: an item has come to stand at the last place, for places from which on it hasn't stood there yet.
type step struct {
	item
	from uint64
}

func newReader(p plain.Grammar) *reader {
	r := reader{p: p, prods: make([][]int, len(p.Names)), nullable: facts.Nullable(p)}
	generating := facts.Generating(p)
	barren := func(symbol int) bool { return symbol >= 0 && !generating[symbol] }
	for k, prod := range p.Prods {
		if !slices.ContainsFunc(prod.Right, barren) {
			r.prods[prod.Left] = append(r.prods[prod.Left], k)
		}
	}
	return &r
}

// begin at the place ahead of all terminals.
func (r *reader) begin() *place {
	r.places = append(r.places, newPlace(0))
	r.expect(r.p.Start)
	return r.settle()
}

// read the next terminal.
func (r *reader) read(terminal int) *place {
	before := r.last()
	r.places = append(r.places, newPlace(len(r.places)))
	r.pass(before, -1-terminal)
	return r.settle()
}

// last place up to now.
func (r *reader) last() *place {
	return r.places[len(r.places)-1]
}

// ends: may a word end at the last place?
func (r *reader) ends() bool {
	whole := func(prod int) bool { return r.last().items[item{prod, len(r.p.Prods[prod].Right)}]&1 == 1 }
	return slices.ContainsFunc(r.prods[r.p.Start], whole)
}

// settle the last place: all steps that follow from those that are left.
func (r *reader) settle() *place {
	for len(r.todo) > 0 {
		s := r.todo[len(r.todo)-1]
		r.todo = r.todo[:len(r.todo)-1]
		r.take(s)
	}
	return r.last()
}

func (r *reader) take(s step) {
	prod := r.p.Prods[s.prod]
	if s.met == len(prod.Right) {
		r.complete(prod.Left, s.from)
		return
	}
	if symbol := prod.Right[s.met]; symbol >= 0 && r.nullable[symbol] {
		r.add(s.on(), s.from)
	}
}

// expect a nonterminal from the last place on.
func (r *reader) expect(symbol int) {
	for _, prod := range r.prods[symbol] {
		r.add(item{prod, 0}, r.last().bit())
	}
}

// complete a nonterminal from some places up to the last one; from that one itself it is empty, which items that it goes on know without.
func (r *reader) complete(symbol int, from uint64) {
	at := r.last()
	from &^= at.whole[symbol] | at.bit()
	at.whole[symbol] |= from
	for ; from != 0; from &= from - 1 {
		r.pass(r.places[bits.TrailingZeros64(from)], symbol)
	}
}

// pass a symbol, from where it began up to the last place.
func (r *reader) pass(before *place, symbol int) {
	for _, i := range before.ahead[symbol] {
		r.add(i.on(), before.items[i])
	}
}

// add an item to the last place.
func (r *reader) add(i item, from uint64) {
	at := r.last()
	had, ok := at.items[i]
	if ok && from&^had == 0 {
		return
	}
	at.items[i] = had | from
	r.todo = append(r.todo, step{i, from &^ had})
	if right := r.p.Prods[i.prod].Right; !ok && i.met < len(right) {
		r.await(right[i.met], i)
	}
}

// await a symbol that an item at the last place goes on with.
func (r *reader) await(symbol int, i item) {
	at := r.last()
	at.ahead[symbol] = append(at.ahead[symbol], i)
	if symbol >= 0 && len(at.ahead[symbol]) == 1 {
		r.expect(symbol)
	}
}
