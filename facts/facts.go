// Package facts keeps facts: relations that are maps by tuples, told in their order.
package facts

import (
	"maps"
	"slices"

	"upshot/api"
)

// Tuple is so many words as its name has terms, and zeros behind them: an array, so that it can be a map's key.
type Tuple [api.MaxArity]Word

// NewTuple makes a tuple of constants, MaxArity of them at most.
func NewTuple(constants []string) Tuple {
	var t Tuple
	for i, constant := range constants {
		t[i] = NewWord(constant)
	}
	return t
}

// Constants lists the tuple's constants, in memory of their own.
func (t Tuple) Constants() []string {
	var constants []string
	for _, word := range t {
		if word != 0 {
			constants = append(constants, word.Text())
		}
	}
	return constants
}

// Compare orders tuples by their first constants, then the second ones, and so on.
func (t Tuple) Compare(other Tuple) int { return slices.Compare(t[:], other[:]) }

// Fits tells whether the tuple has the constants of a pattern, which has a 0 where any will do.
func (t Tuple) Fits(pattern Tuple) bool {
	for i, word := range pattern {
		if word != 0 && word != t[i] {
			return false
		}
	}
	return true
}

// Relation is the tuples of one name.
type Relation map[Tuple]struct{}

// One makes a relation of one tuple.
func One(tuple Tuple) Relation { return Relation{tuple: {}} }

// Has tells whether the tuple is in the relation.
func (r Relation) Has(tuple Tuple) bool {
	_, ok := r[tuple]
	return ok
}

// Sorted lists the tuples of the relation in their order.
func (r Relation) Sorted() []Tuple { return slices.SortedFunc(maps.Keys(r), Tuple.Compare) }

// Matching lists the tuples that have the constants of a pattern, in their order.
func (r Relation) Matching(pattern Tuple) []Tuple {
	var found []Tuple
	for tuple := range r {
		if tuple.Fits(pattern) {
			found = append(found, tuple)
		}
	}
	slices.SortFunc(found, Tuple.Compare)
	return found
}
