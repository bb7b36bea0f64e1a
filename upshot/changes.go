package upshot

import (
	"slices"
	"strings"

	"upshot/api"
	"upshot/facts"
)

// check tells what is wrong with a change, whatever base facts there are.
func (e *Engine) check(change api.Change) api.Errno {
	known, ok := e.names[change.Name]
	switch {
	case !ok:
		return api.ErrName
	case known.Derived:
		return api.ErrDerived
	case len(change.Args) != known.Arity:
		return api.ErrArity
	case !areConstants(change.Args):
		return api.ErrSyntax
	}
	return api.OK
}

// baseChanges lists what the changes, with which nothing is wrong, do to the base facts.
func (e *Engine) baseChanges(changes []api.Change) []facts.Change {
	var asked []facts.Change
	for _, change := range changes {
		// The name is told again: that is not to hold on to the caller's text.
		name := strings.Clone(change.Name)
		asked = append(asked, facts.Change{Name: name, Tuple: facts.NewTuple(change.Args), Gone: change.Gone})
	}
	shift := facts.NewShift(asked)
	// What is taken away and laid is there, whichever of them comes first.
	shift.Gone.TakeAll(shift.Came)
	return slices.DeleteFunc(shift.Changes(), func(c facts.Change) bool {
		return e.store.Has(c.Name, c.Tuple) != c.Gone
	})
}

// baseSize counts the base facts.
func (e *Engine) baseSize() int {
	size := 0
	for name, known := range e.names {
		if !known.Derived {
			size += len(e.store[name])
		}
	}
	return size
}

// growth tells how many more facts there are by changes.
func growth(changes []facts.Change) int {
	more := 0
	for _, change := range changes {
		if change.Gone {
			more--
		} else {
			more++
		}
	}
	return more
}

// told writes changes in the order of their facts, for the caller.
func told(changes []facts.Change) []api.Change {
	slices.SortFunc(changes, facts.Change.Compare)
	var list []api.Change
	for _, c := range changes {
		list = append(list, api.Change{Name: c.Name, Args: c.Tuple.Constants(), Gone: c.Gone})
	}
	return list
}
