package layers

import (
	"upshot/facts"
	"upshot/rules"
)

// counting is the layer of a name that does not stand above itself: it keeps the supports of the name's tuples.
type counting struct {
	common
	supports map[facts.Tuple]facts.Count
}

// sums is counts of ways by the tuples that follow by them.
type sums map[facts.Tuple]facts.Count

func (s sums) plus(ways map[facts.Tuple]facts.Count) {
	for tuple, count := range ways {
		s[tuple] = s[tuple].Plus(count)
	}
}

func (s sums) minus(ways map[facts.Tuple]facts.Count) {
	for tuple, count := range ways {
		s[tuple] = s[tuple].Minus(count)
	}
}

func (c *counting) fill() []facts.Change {
	more := sums{}
	for _, rule := range c.rules {
		more.plus(rule.Heads(c.store))
	}
	return c.settle(more)
}

// carry goes through each rule literal by literal: where one has changed, those ahead of it have done so already,
// and those behind it not yet. So each way that is won or lost is counted once.
func (c *counting) carry(came []facts.Change) []facts.Change {
	shift := facts.NewShift(came)
	now, before := c.store.Now(), c.store.Before(shift)
	more := sums{}
	c.eachGain(shift, func(rule rules.Rule, place int, tuples facts.Relation) {
		more.plus(rule.From(place, now, before).Heads(tuples))
	})
	c.eachGain(shift.Reversed(), func(rule rules.Rule, place int, tuples facts.Relation) {
		more.minus(rule.From(place, now, before).Heads(tuples))
	})
	return c.settle(more)
}

// settle adds to the supports, lays what has one now, takes away what has none any more, and lists that.
func (c *counting) settle(more sums) []facts.Change {
	var changes []facts.Change
	none := facts.Count{}
	for tuple, count := range more {
		was, is := c.supports[tuple], c.supports[tuple].Plus(count)
		if is == none {
			delete(c.supports, tuple)
		} else {
			c.supports[tuple] = is
		}
		if (was == none) != (is == none) {
			changes = append(changes, facts.Change{Name: c.rules[0].Name(), Tuple: tuple, Gone: is == none})
		}
	}
	c.store.Make(changes)
	return changes
}

func (c *counting) support(_ string, tuple facts.Tuple) facts.Count { return c.supports[tuple] }
