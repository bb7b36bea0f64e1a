// Package rules goes through rules: it tells what follows by one from relations, and in how many ways.
package rules

import (
	"upshot/facts"
	"upshot/syntax"
)

// Rule is a head and a body whose variables are numbered.
type Rule struct {
	head atom
	body []literal
}

type atom struct {
	name  string
	terms []term
}

// term is a constant; or, if that is 0, the variable with the number.
type term struct {
	constant facts.Word
	variable int
}

type literal struct {
	atom
	negated bool
}

// New makes a rule of a clause that has a body, and no variable that stands in no atom of it that is not negated.
func New(clause syntax.Clause) Rule {
	numbers := map[string]int{}
	rule := Rule{head: newAtom(clause.Head, numbers)}
	for _, l := range clause.Body {
		rule.body = append(rule.body, literal{atom: newAtom(l.Atom, numbers), negated: l.Negated})
	}
	return rule
}

// newAtom numbers the variables that have no number yet.
func newAtom(from syntax.Atom, numbers map[string]int) atom {
	a := atom{name: from.Name}
	for _, t := range from.Terms {
		if !t.Variable {
			a.terms = append(a.terms, term{constant: facts.NewWord(t.Text)})
			continue
		}
		number, known := numbers[t.Text]
		if !known {
			number = len(numbers)
			numbers[t.Text] = number
		}
		a.terms = append(a.terms, term{variable: number})
	}
	return a
}

// Name is the name of the rule's head.
func (r Rule) Name() string { return r.head.name }

// Size is how many literals the body has.
func (r Rule) Size() int { return len(r.body) }

// Places lists the places in the body of atoms that are not negated, and have one of the names.
func (r Rule) Places(names map[string]struct{}) []int {
	var places []int
	for i, l := range r.body {
		if _, ok := names[l.name]; ok && !l.negated {
			places = append(places, i)
		}
	}
	return places
}

// Gained gives the tuples with which the literal at a place of the body holds by a shift, and did not before.
func (r Rule) Gained(place int, shift facts.Shift) facts.Relation {
	l := r.body[place]
	if l.negated {
		return shift.Gone[l.name]
	}
	return shift.Came[l.name]
}

// Heads gives the tuples that follow by the rule from the store, and in how many ways each does.
func (r Rule) Heads(store facts.Store) map[facts.Tuple]facts.Count {
	return r.whole(store.Now()).Heads(facts.One(facts.Tuple{}))
}

// Ways tells in how many ways a tuple follows by the rule from the store.
func (r Rule) Ways(tuple facts.Tuple, store facts.Store) facts.Count {
	constants, ok := r.head.match(tuple)
	if !ok {
		return facts.Count{}
	}
	// With constants in the places of variables, far less is to be gone through.
	return r.with(constants).Heads(store)[tuple]
}

// Still gives those of some tuples that follow by the rule from the store.
func (r Rule) Still(tuples facts.Relation, store facts.Store) facts.Relation {
	join, from := r.fromHead(store.Now()), tuples
	// Of many tuples it is less work to find all that follows than to look behind each of them.
	if whole := r.whole(store.Now()); whole.cost/max(1, len(tuples)) < join.cost/price(r.head.variables()) {
		join, from = whole, facts.One(facts.Tuple{})
	}
	still := facts.Relation{}
	for tuple := range join.Heads(from) {
		if tuples.Has(tuple) {
			still[tuple] = struct{}{}
		}
	}
	return still
}

// with is the rule with constants in the places of their variables.
func (r Rule) with(constants binding) Rule {
	rule := Rule{head: r.head.with(constants)}
	for _, l := range r.body {
		rule.body = append(rule.body, literal{atom: l.with(constants), negated: l.negated})
	}
	return rule
}

func (a atom) with(constants binding) atom {
	bound := atom{name: a.name}
	for _, t := range a.terms {
		if t.constant == 0 {
			t.constant = constants[t.variable]
		}
		bound.terms = append(bound.terms, t)
	}
	return bound
}

// match gives the constants by which the atom is the tuple, if there are such.
func (a atom) match(tuple facts.Tuple) (binding, bool) {
	var b binding
	for i, t := range a.terms {
		word := t.constant
		if word == 0 {
			word = b[t.variable]
		}
		if word == 0 {
			b[t.variable] = tuple[i]
		} else if word != tuple[i] {
			return binding{}, false
		}
	}
	return b, true
}

// tuple is the atom with the constants of a binding, which has one for each of its variables.
func (a atom) tuple(b binding) facts.Tuple {
	var tuple facts.Tuple
	for i, t := range a.terms {
		tuple[i] = t.constant
		if t.constant == 0 {
			tuple[i] = b[t.variable]
		}
	}
	return tuple
}
