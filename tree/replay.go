package tree

import (
	"slices"

	"primer/api"
	"primer/plain"
)

const mostSymbols = 1 << 16 // of a replay

// Replay productions from the left on.
func Replay(p plain.Grammar, from int, l []int) ([]int, api.Errno) {
	if !plain.Sound(p) || from < -len(p.Terms) || from >= len(p.Names) {
		return nil, api.ErrArg
	}
	s := symbols{behind: []int{from}}
	for _, n := range l {
		if n < 0 || n >= len(p.Prods) {
			return nil, api.ErrNone
		}
		if err := s.use(p.Prods[n]); err != api.OK {
			return nil, err
		}
	}
	return s.all(), api.OK
}

// symbols of a replay: the terminals ahead of where it goes on, and what is behind, turned round, so that a step costs no more than its production has symbols.
type symbols struct {
	ahead, behind []int
}

// use a production for the first nonterminal.
func (s *symbols) use(prod plain.Prod) api.Errno {
	s.skip()
	last := len(s.behind) - 1
	switch {
	case last < 0:
		return api.ErrState
	case s.behind[last] != prod.Left:
		return api.ErrKind
	case len(s.ahead)+last+len(prod.Right) > mostSymbols:
		return api.ErrLong
	}
	s.behind = s.behind[:last]
	for _, symbol := range slices.Backward(prod.Right) {
		s.behind = append(s.behind, symbol)
	}
	return api.OK
}

// skip the terminals that come next.
func (s *symbols) skip() {
	for last := len(s.behind) - 1; last >= 0 && s.behind[last] < 0; last-- {
		s.ahead = append(s.ahead, s.behind[last])
		s.behind = s.behind[:last]
	}
}

func (s *symbols) all() []int {
	for _, symbol := range slices.Backward(s.behind) {
		s.ahead = append(s.ahead, symbol)
	}
	return s.ahead
}
