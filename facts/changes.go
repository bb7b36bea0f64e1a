package facts

import (
	"cmp"
	"strings"
)

// Change is a fact that comes, or is gone.
type Change struct {
	Name  string
	Tuple Tuple
	Gone  bool
}

// Compare orders changes as their facts: by their names, then by their tuples.
func (c Change) Compare(other Change) int {
	return cmp.Or(strings.Compare(c.Name, other.Name), c.Tuple.Compare(other.Tuple))
}

// Shift is what has come to some relations, and what is gone from them.
type Shift struct {
	Came, Gone Store
}

// NewShift makes a shift of changes.
func NewShift(changes []Change) Shift {
	s := Shift{Came: Store{}, Gone: Store{}}
	for _, c := range changes {
		if c.Gone {
			s.Gone.Lay(c.Name, c.Tuple)
		} else {
			s.Came.Lay(c.Name, c.Tuple)
		}
	}
	return s
}

// Reversed is the way back.
func (s Shift) Reversed() Shift { return Shift{Came: s.Gone, Gone: s.Came} }

// Changes lists what has changed: not what was taken away and then laid back, so it is on both sides.
func (s Shift) Changes() []Change {
	var changes []Change
	for name, tuples := range s.Gone {
		for tuple := range tuples {
			if !s.Came.Has(name, tuple) {
				changes = append(changes, Change{Name: name, Tuple: tuple, Gone: true})
			}
		}
	}
	for name, tuples := range s.Came {
		for tuple := range tuples {
			if !s.Gone.Has(name, tuple) {
				changes = append(changes, Change{Name: name, Tuple: tuple})
			}
		}
	}
	return changes
}
