// Package upshot: what follows from facts, kept up as facts come and go: see DOC.md.
package upshot

import (
	"upshot/api"
	"upshot/facts"
	"upshot/program"
	"upshot/syntax"
)

// Engine keeps what follows.
type Engine struct {
	base facts.Store
}

// Load reads a program (P3).
func Load(text string) (*Engine, api.Errno, int) {
	clauses, fault, place := program.Read(text)
	if fault != api.OK {
		return nil, fault, place
	}
	return &Engine{base: baseFacts(clauses)}, api.OK, 0
}

func baseFacts(clauses []syntax.Clause) facts.Store {
	base := facts.Store{}
	for _, clause := range clauses {
		if clause.IsFact() {
			base.Lay(clause.Head.Name, tupleOf(clause.Head))
		}
	}
	return base
}

// tupleOf makes a tuple of an atom that has no variables.
func tupleOf(atom syntax.Atom) facts.Tuple {
	var constants []string
	for _, term := range atom.Terms {
		constants = append(constants, term.Text)
	}
	return facts.NewTuple(constants)
}

// Apply makes changes, and tells what has changed by them (P4).
func (e *Engine) Apply(changes ...api.Change) ([]api.Change, api.Errno, int) { return nil, api.OK, 0 }

// Query tells the tuples of a name (P5).
func (e *Engine) Query(name string, args ...string) ([][]string, api.Errno) { return nil, api.OK }

// Support tells by how many ways a tuple follows (P6).
func (e *Engine) Support(name string, args ...string) (int, api.Errno) { return 0, api.OK }

// Dump tells all facts (P7).
func (e *Engine) Dump() string { return e.base.Text() }
