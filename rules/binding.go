package rules

import (
	"math/bits"

	"upshot/api"
	"upshot/facts"
)

// maxVariables is the most that a rule can have, for each stands in an atom of its body.
const maxVariables = api.MaxBody * api.MaxArity

// binding is constants for a rule's variables, by their numbers; 0 for those that have none (yet, or any more).
type binding [maxVariables]facts.Word

// only is the binding without the constants of variables outside of the set.
func (b binding) only(vs variables) binding {
	for number := range b {
		if vs>>number&1 == 0 {
			b[number] = 0
		}
	}
	return b
}

// and is the binding with the constants of one of other variables.
func (b binding) and(other binding) binding {
	for number := range b {
		b[number] |= other[number]
	}
	return b
}

// variables is a set of them, a bit for each.
type variables uint16

func (vs variables) size() int { return bits.OnesCount16(uint16(vs)) }

func (a atom) variables() variables {
	var vs variables
	for _, t := range a.terms {
		if t.constant == 0 {
			vs |= 1 << t.variable
		}
	}
	return vs
}

func variablesOf(parts []part) variables {
	var vs variables
	for _, p := range parts {
		vs |= p.variables()
	}
	return vs
}
