package facts

import (
	"maps"
	"slices"
	"strings"
)

// Store keeps relations by their names.
type Store map[string]Relation

// NewStore makes a store with an empty relation for each name.
func NewStore(names []string) Store {
	s := Store{}
	for _, name := range names {
		s[name] = Relation{}
	}
	return s
}

// Has tells whether a fact is in the store.
func (s Store) Has(name string, tuple Tuple) bool { return s[name].Has(tuple) }

// Lay puts a fact into the store, and tells whether it was not there.
func (s Store) Lay(name string, tuple Tuple) bool {
	relation, ok := s[name]
	if !ok {
		relation = Relation{}
		s[name] = relation
	}
	if relation.Has(tuple) {
		return false
	}
	relation[tuple] = struct{}{}
	return true
}

// LayAll puts all facts of another store into the store.
func (s Store) LayAll(other Store) {
	for name, tuples := range other {
		for tuple := range tuples {
			s.Lay(name, tuple)
		}
	}
}

// TakeAll takes all facts of another store out of the store.
func (s Store) TakeAll(other Store) {
	for name, tuples := range other {
		for tuple := range tuples {
			delete(s[name], tuple)
		}
	}
}

// Make makes changes to the store.
func (s Store) Make(changes []Change) {
	for _, c := range changes {
		if c.Gone {
			delete(s[c.Name], c.Tuple)
		} else {
			s.Lay(c.Name, c.Tuple)
		}
	}
}

// Text writes all facts in their order, each as a line.
func (s Store) Text() string {
	var text strings.Builder
	for _, name := range slices.Sorted(maps.Keys(s)) {
		for _, tuple := range s[name].Sorted() {
			text.WriteString(name + "(" + strings.Join(tuple.Constants(), ",") + ").\n")
		}
	}
	return text.String()
}
