package layers

import (
	"upshot/facts"
	"upshot/rules"
)

// reaching is the layer of names that stand above themselves. It keeps no supports: a tuple of such a name can
// have some that hang on the tuple itself, so they do not tell whether it follows.
type reaching struct {
	common
}

func (r *reaching) fill() []facts.Change {
	joins := r.joins()
	var changes []facts.Change
	for fresh := r.outset(); len(fresh) > 0; fresh = r.onward(joins, fresh) {
		for name, tuples := range fresh {
			for tuple := range tuples {
				changes = r.lay(changes, name, tuple)
			}
			for _, join := range joins {
				join.Take(name, tuples)
			}
		}
	}
	return changes
}

// names gives the names of the layer.
func (r *reaching) names() map[string]struct{} {
	names := map[string]struct{}{}
	for _, rule := range r.rules {
		names[rule.Name()] = struct{}{}
	}
	return names
}

// joins makes a join for each atom of a rule that has a name of the layer.
func (r *reaching) joins() []*rules.Join {
	names := r.names()
	var joins []*rules.Join
	for _, rule := range r.rules {
		for _, place := range rule.Places(names) {
			joins = append(joins, rule.From(place, r.store))
		}
	}
	return joins
}

// outset gives what follows by the rules that look at no name of the layer.
func (r *reaching) outset() facts.Store {
	names := r.names()
	found := facts.Store{}
	for _, rule := range r.rules {
		if len(rule.Places(names)) > 0 {
			continue
		}
		for tuple := range rule.Heads(r.store) {
			found.Lay(rule.Name(), tuple)
		}
	}
	return found
}

// onward gives what is not there yet, and follows in one step from what has been laid last.
func (r *reaching) onward(joins []*rules.Join, last facts.Store) facts.Store {
	found := facts.Store{}
	for _, join := range joins {
		for tuple := range join.Heads(last[join.First()]) {
			if !r.store[join.Head()].Has(tuple) {
				found.Lay(join.Head(), tuple)
			}
		}
	}
	return found
}

func (r *reaching) support(name string, tuple facts.Tuple) facts.Count {
	var sum facts.Count
	for _, rule := range r.rules {
		if rule.Name() == name {
			sum = sum.Plus(rule.Ways(tuple, r.store))
		}
	}
	return sum
}
