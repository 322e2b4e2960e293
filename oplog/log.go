// Package oplog is layer 24: see shared/doc/24-oplog.md.
package oplog

import (
	"slices"

	"primer/message"
)

// Log of entries behind a base, which a state stands for.
type Log struct {
	Base    int
	State   string
	Entries []message.Entry
}

// Op: the number of the last entry.
func (l Log) Op() int {
	return l.Base + len(l.Entries)
}

// At: the entry of a number.
func (l Log) At(op int) (message.Entry, bool) {
	if op <= l.Base || op > l.Op() {
		return message.Entry{}, false
	}
	return l.Entries[op-l.Base-1], true
}

// Add an entry.
func (l Log) Add(x message.Entry) Log {
	return Log{Base: l.Base, State: l.State, Entries: append(l.above(l.Base), x)}
}

// Cut: a state stands for all up to a number.
func (l Log) Cut(op int, state string) (Log, bool) {
	if op <= l.Base || op > l.Op() {
		return Log{Base: l.Base, State: l.State, Entries: l.above(l.Base)}, false
	}
	return Log{Base: op, State: state, Entries: l.above(op)}, true
}

// Merge a newer log.
func (l Log) Merge(n Log) Log {
	if n.Base >= l.Base {
		return Log{Base: n.Base, State: n.State, Entries: n.above(n.Base)}
	}
	return Log{Base: l.Base, State: l.State, Entries: n.above(l.Base)}
}

// above: a copy of the entries whose numbers are above a number that is no less than the base.
func (l Log) above(op int) []message.Entry {
	if op >= l.Op() {
		return nil
	}
	return slices.Clone(l.Entries[op-l.Base:])
}

// Last request of a client among the entries.
func (l Log) Last(client int) int {
	last := 0
	for _, x := range l.Entries {
		if x.Client == client {
			last = max(last, x.Number)
		}
	}
	return last
}

// Agree: are the entries that both have the same?
func Agree(a, b Log) bool {
	for k, x := range a.Entries {
		if y, ok := b.At(a.Base + 1 + k); ok && y != x {
			return false
		}
	}
	return true
}
