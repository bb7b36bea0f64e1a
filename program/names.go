package program

import "upshot/syntax"

// Name tells what is known of a name.
type Name struct {
	Arity   int // how many terms its atoms have
	Derived bool
}

// Names tells of all names of the clauses.
func Names(clauses []syntax.Clause) map[string]Name {
	names := map[string]Name{}
	for _, clause := range clauses {
		for _, atom := range clause.Atoms() {
			names[atom.Name] = Name{Arity: len(atom.Terms), Derived: names[atom.Name].Derived}
		}
		if !clause.IsFact() {
			names[clause.Head.Name] = Name{Arity: len(clause.Head.Terms), Derived: true}
		}
	}
	return names
}
