// Package facts keeps facts: relations that are maps by tuples, told in their order.
package facts

import (
	"maps"
	"slices"
	"strings"

	"upshot/api"
)

// Tuple is so many constants as its name has terms, and empty strings behind them:
// an array, so that it can be a map's key.
type Tuple [api.MaxArity]string

// NewTuple makes a tuple of constants, MaxArity of them at most.
func NewTuple(constants []string) Tuple {
	var t Tuple
	for i, constant := range constants {
		// A tuple may be kept, and is not to hold on to the text that the constant came in.
		t[i] = strings.Clone(constant)
	}
	return t
}

// Constants lists the tuple's constants, in memory of their own.
func (t Tuple) Constants() []string {
	size := 0
	// No constant is empty, so the first empty string is the end.
	for size < len(t) && t[size] != "" {
		size++
	}
	return slices.Clone(t[:size])
}

// Compare orders tuples by their first constants, then the second ones, and so on.
func (t Tuple) Compare(other Tuple) int { return slices.Compare(t[:], other[:]) }

// Relation is the tuples of one name.
type Relation map[Tuple]struct{}

// Sorted lists the tuples of the relation in their order.
func (r Relation) Sorted() []Tuple { return slices.SortedFunc(maps.Keys(r), Tuple.Compare) }

// Store keeps a relation for each name that has a tuple.
type Store map[string]Relation

// Lay puts a fact into the store, if it is not there.
func (s Store) Lay(name string, tuple Tuple) {
	relation, ok := s[name]
	if !ok {
		relation = Relation{}
		s[strings.Clone(name)] = relation
	}
	relation[tuple] = struct{}{}
}

// Text writes all facts in their order, each as a line.
func (s Store) Text() string {
	var text strings.Builder
	for _, name := range slices.Sorted(maps.Keys(s)) {
		for _, tuple := range s[name].Sorted() {
			text.WriteString(name + "(" + strings.Join(tuple.Constants(), ",") + ").\n")
		}
	}
	return text.String()
}
