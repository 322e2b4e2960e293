package earley

import "slices"

// An item is a production of whose right side so many symbols are met.
type item struct{ prod, met int }

// on: the item that has met one symbol more.
func (i item) on() item {
	return item{i.prod, i.met + 1}
}

// A place in a word, with what stands there.
type place struct {
	number int
	items  map[item]uint64 // each with a bit for each place from which on its production is met; 64, the last place of the longest word, has none, as nothing comes behind it
	ahead  map[int][]item  // of each symbol the items that it goes on
	whole  map[int]uint64  // of each nonterminal the earlier places from which on it is met
}

func newPlace(number int) *place {
	return &place{number, make(map[item]uint64), make(map[int][]item), make(map[int]uint64)}
}

// stands: does any item?
func (at *place) stands() bool {
	return len(at.items) > 0
}

// bit of the place itself.
func (at *place) bit() uint64 {
	return 1 << at.number
}

// terminals that may come next, rising.
func (at *place) terminals() []int {
	var l []int
	for symbol := range at.ahead {
		if symbol < 0 {
			l = append(l, -1-symbol)
		}
	}
	slices.Sort(l)
	return l
}
