package rules

import "upshot/facts"

// Join finds all bindings by which a rule's body holds, literal by literal. Bindings that differ in nothing
// that is needed behind a literal are one from there on, with a count: else they would be too many.
type Join struct {
	store facts.Store
	head  atom
	first atom
	start sieve
	steps []step
}

// rows is the tuples of a literal as a step asks for them: by the constants of the variables that it knows,
// those of the ones that come fresh, and how many tuples have both.
type rows map[binding]map[binding]uint64

// bag is bindings, and how many of all the rule's variables each stands for.
type bag map[binding]facts.Count

// From makes a join that begins with the literal at a place of the body, which is not negated.
func (r Rule) From(place int, store facts.Store) *Join {
	var others []literal
	for i, l := range r.body {
		if i != place {
			others = append(others, l)
		}
	}
	return r.join(r.body[place].atom, others, store)
}

func (r Rule) join(first atom, others []literal, store facts.Store) *Join {
	head := r.head.variables()
	start, rest := newSieve(first.variables(), others, head)
	steps, _ := cheapest(start.live, rest, head)
	for i := range steps {
		steps[i].rows = rows{}
		steps[i].take(store[steps[i].literal.name])
	}
	return &Join{store: store, head: r.head, first: first, start: start, steps: steps}
}

// First is the name of the atom that the join begins with.
func (j *Join) First() string { return j.first.name }

// Head is the name of the rule's head.
func (j *Join) Head() string { return j.head.name }

// Take tells the join of tuples of a name that the store did not have when the join was made.
func (j *Join) Take(name string, tuples facts.Relation) {
	for _, s := range j.steps {
		if s.literal.name == name {
			s.take(tuples)
		}
	}
}

func (s step) take(tuples facts.Relation) {
	for tuple := range tuples {
		b, ok := s.literal.match(tuple)
		if !ok {
			continue
		}
		key := b.only(s.known)
		if s.rows[key] == nil {
			s.rows[key] = map[binding]uint64{}
		}
		s.rows[key][b.only(s.fresh)]++
	}
}

// Heads gives the tuples that follow by the rule if its first atom is one of some tuples, and in how many ways.
func (j *Join) Heads(tuples facts.Relation) map[facts.Tuple]facts.Count {
	found := bag{}
	for tuple := range tuples {
		if b, ok := j.first.match(tuple); ok {
			j.lay(found, j.start, b, facts.NewCount(1))
		}
	}
	for _, s := range j.steps {
		found = j.spread(found, s)
	}
	heads := map[facts.Tuple]facts.Count{}
	for b, count := range found {
		heads[j.head.tuple(b)] = count
	}
	return heads
}

func (j *Join) spread(from bag, s step) bag {
	found := bag{}
	for b, count := range from {
		for row, times := range s.rows[b.only(s.known)] {
			j.lay(found, s.sieve, b.and(row), count.Times(times))
		}
	}
	return found
}

// lay adds a binding to the bag, if it passes the sieve.
func (j *Join) lay(into bag, s sieve, b binding, count facts.Count) {
	for _, ask := range s.asks {
		if j.store[ask.name].Has(ask.tuple(b)) == ask.negated {
			return
		}
	}
	b = b.only(s.live)
	into[b] = into[b].Plus(count)
}
