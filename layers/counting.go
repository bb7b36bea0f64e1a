package layers

import "upshot/facts"

// counting is the layer of a name that does not stand above itself: it keeps the supports of the name's tuples.
type counting struct {
	common
	supports map[facts.Tuple]facts.Count
}

func (c *counting) fill() []facts.Change {
	var changes []facts.Change
	for _, rule := range c.rules {
		for tuple, ways := range rule.Heads(c.store) {
			c.supports[tuple] = c.supports[tuple].Plus(ways)
			changes = c.lay(changes, rule.Name(), tuple)
		}
	}
	return changes
}

func (c *counting) support(_ string, tuple facts.Tuple) facts.Count { return c.supports[tuple] }
