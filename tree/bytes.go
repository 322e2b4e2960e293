package tree

import (
	"strings"

	"primer/api"
	"primer/octets"
	"primer/plain"
)

const mostNodes = 1 << 16 // of a tree that is read

// Put: a tree's bytes.
func Put(t Tree) string {
	var b strings.Builder
	each(t, func(prod int) { b.WriteString(octets.Put(prod)) })
	return b.String()
}

// Get a tree of a grammar.
func Get(p plain.Grammar, s string) (Tree, api.Errno) {
	if !plain.Sound(p) {
		return Tree{}, api.ErrArg
	}
	return read(&reader{p: p, rest: s})
}

// A reader has the bytes of a tree that are left, and counts its nodes.
type reader struct {
	p     plain.Grammar
	rest  string
	nodes int
}

// read catches what is thrown where the bytes are no tree's; whatever else is thrown is a mistake of this package, and goes on.
func read(r *reader) (t Tree, err api.Errno) {
	defer func() {
		thrown := recover()
		if thrown == nil {
			return
		}
		wrong, ok := thrown.(api.Errno)
		if !ok {
			panic(thrown)
		}
		t, err = Tree{}, wrong
	}()
	t = r.tree(func(int) bool { return true })
	if r.rest != "" {
		panic(api.ErrTail)
	}
	return t, api.OK
}

// tree takes a tree with such a root.
func (r *reader) tree(such func(root int) bool) Tree {
	t := Tree{Prod: r.node(such)}
	for _, symbol := range side(r.p, t.Prod) {
		t.Kids = append(t.Kids, r.tree(func(root int) bool { return root == symbol }))
	}
	return t
}

// node takes a node's Prod: what that must be comes ahead of whether there may be one more node, and this ahead of bytes that are no number's.
func (r *reader) node(such func(root int) bool) int {
	prod, size, err := octets.Get(r.rest)
	if err == api.OK {
		err = r.wrong(prod, such)
	}
	if r.nodes == mostNodes && err != api.ErrNone && err != api.ErrKind {
		err = api.ErrLong
	}
	if err != api.OK {
		panic(err)
	}
	r.rest = r.rest[size:]
	r.nodes++
	return prod
}

func (r *reader) wrong(prod int, such func(root int) bool) api.Errno {
	symbol, ok := rootOf(r.p, prod)
	switch {
	case !ok:
		return api.ErrNone
	case !such(symbol):
		return api.ErrKind
	}
	return api.OK
}
