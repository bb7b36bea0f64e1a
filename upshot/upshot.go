// Package upshot: what follows from facts, kept up as facts come and go: see DOC.md.
package upshot

import (
	"maps"
	"slices"

	"upshot/api"
	"upshot/facts"
	"upshot/layers"
	"upshot/program"
	"upshot/syntax"
)

// Engine keeps what follows.
type Engine struct {
	names map[string]program.Name
	store facts.Store
	pipe  *layers.Pipe
}

// Load reads a program (P3).
func Load(text string) (*Engine, api.Errno, int) {
	clauses, fault, place := program.Read(text)
	if fault != api.OK {
		return nil, fault, place
	}
	return newEngine(clauses), api.OK, 0
}

func newEngine(clauses []syntax.Clause) *Engine {
	names := program.Names(clauses)
	// Each name has its relation from now on, so that layers never have to make one.
	store := facts.NewStore(slices.Collect(maps.Keys(names)))
	e := &Engine{names: names, store: store, pipe: layers.New(program.Layers(clauses), store)}
	e.pipe.Fill(e.layBase(clauses))
	return e
}

// layBase puts the program's facts into the store.
func (e *Engine) layBase(clauses []syntax.Clause) []facts.Change {
	var laid []facts.Change
	for _, clause := range clauses {
		if !clause.IsFact() {
			continue
		}
		fact := facts.Change{Name: clause.Head.Name, Tuple: tupleOf(clause.Head)}
		if e.store.Lay(fact.Name, fact.Tuple) {
			laid = append(laid, fact)
		}
	}
	return laid
}

// tupleOf makes a tuple of an atom that has no variables.
func tupleOf(atom syntax.Atom) facts.Tuple {
	var constants []string
	for _, term := range atom.Terms {
		constants = append(constants, term.Text)
	}
	return facts.NewTuple(constants)
}

// Apply makes changes, and tells what has changed by them (P4).
func (e *Engine) Apply(changes ...api.Change) ([]api.Change, api.Errno, int) {
	for place, change := range changes {
		if fault := e.check(change); fault != api.OK {
			return nil, fault, place
		}
	}
	base := e.baseChanges(changes)
	if e.baseSize()+growth(base) > api.MaxFacts {
		return nil, api.ErrFull, len(changes)
	}
	e.store.Make(base)
	return told(e.pipe.Carry(base)), api.OK, len(changes)
}

// Query tells the tuples of a name (P5).
func (e *Engine) Query(name string, args ...string) ([][]string, api.Errno) {
	known, ok := e.names[name]
	switch {
	case !ok:
		return nil, api.ErrName
	case len(args) != known.Arity:
		return nil, api.ErrArity
	}
	pattern, ok := patternOf(args)
	if !ok {
		return nil, api.ErrSyntax
	}
	var found [][]string
	for _, tuple := range e.store[name].Matching(pattern) {
		found = append(found, tuple.Constants())
	}
	return found, api.OK
}

// patternOf makes a pattern of constants, and of any where there is a low line.
func patternOf(args []string) (facts.Tuple, bool) {
	var pattern facts.Tuple
	for i, arg := range args {
		if arg == "_" {
			continue
		}
		if !isConstant(arg) {
			return facts.Tuple{}, false
		}
		pattern[i] = facts.NewWord(arg)
	}
	return pattern, true
}

func isConstant(arg string) bool { return len(arg) <= api.MaxWord && syntax.IsConstant(arg) }

func areConstants(args []string) bool {
	for _, arg := range args {
		if !isConstant(arg) {
			return false
		}
	}
	return true
}

// Support tells by how many ways a tuple follows (P6).
func (e *Engine) Support(name string, args ...string) (int, api.Errno) {
	known, ok := e.names[name]
	switch {
	case !ok:
		return 0, api.ErrName
	case !known.Derived:
		return 0, api.ErrDerived
	case len(args) != known.Arity:
		return 0, api.ErrArity
	case !areConstants(args):
		return 0, api.ErrSyntax
	}
	return e.pipe.Support(name, facts.NewTuple(args)).Int(), api.OK
}

// Dump tells all facts (P7).
func (e *Engine) Dump() string { return e.store.Text() }
