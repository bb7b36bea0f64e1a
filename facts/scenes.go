package facts

import "iter"

// Scene is the relations of a store as they are, or as they were.
type Scene struct {
	store Store
	shift Shift // what has been changed since
}

// Now is the store as it is.
func (s Store) Now() Scene { return Scene{store: s} }

// Before is the store as it was before the shift.
func (s Store) Before(shift Shift) Scene { return Scene{store: s, shift: shift} }

// View gives one relation of the scene.
func (s Scene) View(name string) View {
	return View{now: s.store[name], came: s.shift.Came[name], gone: s.shift.Gone[name]}
}

// View is a relation without what has come to it since, and with what is gone from it. Relations can be great
// and their changes few, so this makes no relation of its own.
type View struct {
	now, came, gone Relation
}

// Has tells whether the tuple is in view.
func (v View) Has(tuple Tuple) bool {
	return v.gone.Has(tuple) || v.now.Has(tuple) && !v.came.Has(tuple)
}

// All goes through the tuples in view.
func (v View) All() iter.Seq[Tuple] {
	return func(yield func(Tuple) bool) {
		for tuple := range v.now {
			if !v.came.Has(tuple) && !yield(tuple) {
				return
			}
		}
		for tuple := range v.gone {
			if !yield(tuple) {
				return
			}
		}
	}
}
