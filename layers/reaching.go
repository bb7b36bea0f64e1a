package layers

import (
	"upshot/facts"
	"upshot/rules"
)

// reaching is the layer of names that stand above themselves. It keeps no supports: a tuple of such a name can
// have some that hang on the tuple itself, so they do not tell whether it follows.
type reaching struct {
	common
}

func (r *reaching) fill() []facts.Change {
	return facts.Shift{Came: r.lay(r.outset())}.Changes()
}

// carry takes away too much, and then lays back what still follows, with what is new.
func (r *reaching) carry(came []facts.Change) []facts.Change {
	shift := facts.NewShift(came)
	taken := r.take(shift)
	fresh := r.still(taken)
	fresh.LayAll(r.gains(shift, r.store.Now(), r.store))
	return facts.Shift{Came: r.lay(fresh), Gone: taken}.Changes()
}

// take takes away all that has lost a way to follow, and all that had a way through that, and gives it. Some of it
// may still follow in another way; but were it let stand, a ring of tuples could hold itself up.
func (r *reaching) take(shift facts.Shift) facts.Store {
	before := r.store.Before(shift)
	taken := facts.Store{}
	joins := r.joins(before)
	fresh := r.gains(shift.Reversed(), before, taken)
	for len(fresh) > 0 {
		taken.LayAll(fresh)
		fresh = onward(joins, fresh, taken)
	}
	r.store.TakeAll(taken)
	return taken
}

// still gives what was taken away, and follows in one step from what is left.
func (r *reaching) still(taken facts.Store) facts.Store {
	found := facts.Store{}
	for _, rule := range r.rules {
		if tuples := taken[rule.Name()]; len(tuples) > 0 {
			found.LayAll(facts.Store{rule.Name(): rule.Still(tuples, r.store)})
		}
	}
	return found
}

// lay lays what is not there yet, and all that follows from it, and gives it.
func (r *reaching) lay(fresh facts.Store) facts.Store {
	joins := r.joins(r.store.Now())
	laid := facts.Store{}
	for len(fresh) > 0 {
		r.store.LayAll(fresh)
		laid.LayAll(fresh)
		for _, join := range joins {
			join.Take(fresh)
		}
		fresh = onward(joins, fresh, r.store)
	}
	return laid
}

// onward gives what is not known yet, and follows in one step from what has been found last.
func onward(joins []*rules.Join, last, known facts.Store) facts.Store {
	found := facts.Store{}
	for _, join := range joins {
		layNew(found, join.Head(), join.Heads(last[join.First()]), known)
	}
	return found
}

// layNew puts the heads that are not known yet to what has been found.
func layNew(found facts.Store, name string, heads map[facts.Tuple]facts.Count, known facts.Store) {
	for tuple := range heads {
		if !known.Has(name, tuple) {
			found.Lay(name, tuple)
		}
	}
}

// gains gives what is not known yet, and follows in the scene by literals that hold by the shift and did not before.
func (r *reaching) gains(shift facts.Shift, scene facts.Scene, known facts.Store) facts.Store {
	found := facts.Store{}
	r.eachGain(shift, func(rule rules.Rule, place int, tuples facts.Relation) {
		layNew(found, rule.Name(), rule.From(place, scene, scene).Heads(tuples), known)
	})
	return found
}

// outset gives what follows by the rules that look at no name of the layer.
func (r *reaching) outset() facts.Store {
	names := r.names()
	found := facts.Store{}
	for _, rule := range r.rules {
		if len(rule.Places(names)) == 0 {
			layNew(found, rule.Name(), rule.Heads(r.store), r.store)
		}
	}
	return found
}

// names gives the names of the layer.
func (r *reaching) names() map[string]struct{} {
	names := map[string]struct{}{}
	for _, rule := range r.rules {
		names[rule.Name()] = struct{}{}
	}
	return names
}

// joins makes a join for each atom of a rule that has a name of the layer.
func (r *reaching) joins(scene facts.Scene) []*rules.Join {
	names := r.names()
	var joins []*rules.Join
	for _, rule := range r.rules {
		for _, place := range rule.Places(names) {
			joins = append(joins, rule.From(place, scene, scene))
		}
	}
	return joins
}

func (r *reaching) support(name string, tuple facts.Tuple) facts.Count {
	var sum facts.Count
	for _, rule := range r.rules {
		if rule.Name() == name {
			sum = sum.Plus(rule.Ways(tuple, r.store))
		}
	}
	return sum
}
