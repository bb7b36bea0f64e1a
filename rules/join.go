package rules

import (
	"iter"
	"maps"

	"upshot/facts"
)

// Join finds all bindings by which a rule's body holds, literal by literal. Bindings that differ in nothing
// that is needed behind a literal are one from there on, with a count: else they would be too many.
type Join struct {
	head  atom
	first atom
	start sieve
	steps []step
	cost  int
}

// part is a literal of a body, and the relation that a join looks at for it.
type part struct {
	literal
	view facts.View
}

// rows is the tuples of a literal as a step asks for them: by the constants of the variables that it knows,
// those of the ones that come fresh, and how many tuples have both.
type rows map[binding]map[binding]uint64

// bag is bindings, and how many of all the rule's variables each stands for.
type bag map[binding]facts.Count

// From makes a join that begins with the literal at a place of the body. It looks at the literals that stand
// ahead of that one in the body in one scene, and at those behind it in another.
func (r Rule) From(place int, ahead, behind facts.Scene) *Join {
	others := append(parts(r.body[:place], ahead), parts(r.body[place+1:], behind)...)
	return r.join(r.body[place].atom, others)
}

// fromHead makes a join that begins with the head, so it finds by which ways a tuple does follow.
func (r Rule) fromHead(scene facts.Scene) *Join { return r.join(r.head, parts(r.body, scene)) }

// whole makes a join that begins with nothing: so the one tuple without constants is all that it is to be given.
func (r Rule) whole(scene facts.Scene) *Join { return r.join(atom{}, parts(r.body, scene)) }

func parts(literals []literal, scene facts.Scene) []part {
	var list []part
	for _, l := range literals {
		list = append(list, part{literal: l, view: scene.View(l.name)})
	}
	return list
}

func (r Rule) join(first atom, others []part) *Join {
	head := r.head.variables()
	start, rest := newSieve(first.variables(), others, head)
	steps, cost := cheapest(start.live, rest, head)
	return &Join{head: r.head, first: first, start: start, steps: steps, cost: cost}
}

// First is the name of the atom that the join begins with.
func (j *Join) First() string { return j.first.name }

// Head is the name of the rule's head.
func (j *Join) Head() string { return j.head.name }

// Take tells the join of facts that have just been laid.
func (j *Join) Take(laid facts.Store) {
	for _, s := range j.steps {
		// Rows that are not there yet will be made of all that is in view by then.
		if s.rows != nil {
			s.take(maps.Keys(laid[s.part.name]))
		}
	}
}

func (s step) take(tuples iter.Seq[facts.Tuple]) {
	for tuple := range tuples {
		b, ok := s.part.match(tuple)
		if !ok {
			continue
		}
		key := b.only(s.known)
		if s.rows[key] == nil {
			s.rows[key] = map[binding]uint64{}
		}
		s.rows[key][b.only(s.fresh)]++
	}
}

// Heads gives the tuples that follow by the rule if its first atom is one of some tuples, and in how many ways.
func (j *Join) Heads(tuples facts.Relation) map[facts.Tuple]facts.Count {
	found := bag{}
	for tuple := range tuples {
		if b, ok := j.first.match(tuple); ok {
			found.lay(j.start, b, facts.NewCount(1))
		}
	}
	for i := range j.steps {
		found = j.steps[i].spread(found)
	}
	heads := map[facts.Tuple]facts.Count{}
	for b, count := range found {
		heads[j.head.tuple(b)] = count
	}
	return heads
}

func (s *step) spread(from bag) bag {
	found := bag{}
	if len(from) == 0 {
		return found
	}
	if s.rows == nil {
		s.rows = rows{}
		s.take(s.part.view.All())
	}
	for b, count := range from {
		for row, times := range s.rows[b.only(s.known)] {
			found.lay(s.sieve, b.and(row), count.Times(times))
		}
	}
	return found
}

// lay adds a binding to the bag, if it passes the sieve.
func (found bag) lay(s sieve, b binding, count facts.Count) {
	for _, ask := range s.asks {
		if ask.view.Has(ask.tuple(b)) == ask.negated {
			return
		}
	}
	b = b.only(s.live)
	found[b] = found[b].Plus(count)
}
