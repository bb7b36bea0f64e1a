package program

import (
	"upshot/api"
	"upshot/syntax"
)

// firstOverLimit gives the number of the first clause that passes a limit, itself or with those ahead of it.
func firstOverLimit(clauses []syntax.Clause) int {
	names := map[string]struct{}{}
	for number, clause := range clauses {
		for _, atom := range clause.Atoms() {
			names[atom.Name] = struct{}{}
		}
		if number >= api.MaxClauses || len(names) > api.MaxNames || isTooLarge(clause) {
			return number
		}
	}
	return none
}

func isTooLarge(clause syntax.Clause) bool {
	if len(clause.Body) > api.MaxBody {
		return true
	}
	for _, atom := range clause.Atoms() {
		if len(atom.Terms) > api.MaxArity || hasLongWord(atom) {
			return true
		}
	}
	return false
}

func hasLongWord(atom syntax.Atom) bool {
	if len(atom.Name) > api.MaxWord {
		return true
	}
	for _, term := range atom.Terms {
		if len(term.Text) > api.MaxWord {
			return true
		}
	}
	return false
}

// firstOtherArity gives the number of the first clause that has a name with another number of terms than before.
func firstOtherArity(clauses []syntax.Clause) int {
	arities := map[string]int{}
	for number, clause := range clauses {
		for _, atom := range clause.Atoms() {
			arity, known := arities[atom.Name]
			if known && arity != len(atom.Terms) {
				return number
			}
			arities[atom.Name] = len(atom.Terms)
		}
	}
	return none
}

// firstDerivedFact gives the number of the first clause that is a fact of a derived name.
func firstDerivedFact(clauses []syntax.Clause) int {
	derived := map[string]struct{}{}
	for _, clause := range clauses {
		if !clause.IsFact() {
			derived[clause.Head.Name] = struct{}{}
		}
	}
	for number, clause := range clauses {
		if _, ok := derived[clause.Head.Name]; ok && clause.IsFact() {
			return number
		}
	}
	return none
}

// firstUnsafe gives the number of the first clause with a variable that nothing binds.
func firstUnsafe(clauses []syntax.Clause) int {
	for number, clause := range clauses {
		if !isSafe(clause) {
			return number
		}
	}
	return none
}

// isSafe tells whether each variable of the head and of the negated atoms stands in an atom that is not negated.
func isSafe(clause syntax.Clause) bool {
	bound := boundVariables(clause)
	for _, literal := range clause.Body {
		if literal.Negated && !areBound(literal.Terms, bound) {
			return false
		}
	}
	return areBound(clause.Head.Terms, bound)
}

func boundVariables(clause syntax.Clause) map[string]struct{} {
	bound := map[string]struct{}{}
	for _, literal := range clause.Body {
		if literal.Negated {
			continue
		}
		for _, term := range literal.Terms {
			if term.Variable {
				bound[term.Text] = struct{}{}
			}
		}
	}
	return bound
}

func areBound(terms []syntax.Term, bound map[string]struct{}) bool {
	for _, term := range terms {
		if _, ok := bound[term.Text]; term.Variable && !ok {
			return false
		}
	}
	return true
}
