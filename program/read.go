// Package program reads a program's text, and tells what is wrong with it.
package program

import (
	"strings"

	"upshot/api"
	"upshot/syntax"
)

// none stands for the number of a clause where no clause is at fault.
const none = -1

// Read gives the clauses of a text; or the first error that applies, and its place.
func Read(text string) ([]syntax.Clause, api.Errno, int) {
	if len(text) > api.MaxText {
		return nil, api.ErrSize, api.MaxText
	}
	// The clauses are kept, and are not to hold on to the text that is handed in.
	clauses, place, ok := syntax.Parse(strings.Clone(text))
	if !ok {
		return nil, api.ErrSyntax, place
	}
	if fault, number := check(clauses); fault != api.OK {
		return nil, fault, number
	}
	return clauses, api.OK, 0
}

// check goes through the errors that clauses can have, in the order in which they count.
func check(clauses []syntax.Clause) (api.Errno, int) {
	if number := firstOverLimit(clauses); number != none {
		return api.ErrLimit, number
	}
	if number := firstOtherArity(clauses); number != none {
		return api.ErrArity, number
	}
	if number := firstDerivedFact(clauses); number != none {
		return api.ErrBase, number
	}
	if number := firstUnsafe(clauses); number != none {
		return api.ErrSafe, number
	}
	if !hasLayers(clauses) {
		return api.ErrCycle, 0
	}
	return api.OK, 0
}
