// Package layers keeps what follows by a program's rules, layer by layer.
package layers

import (
	"upshot/facts"
	"upshot/program"
	"upshot/rules"
)

// layer is names that are worked out together, when all that they stand above is.
type layer interface {
	// fill lays all that follows by the layer's rules, while nothing of it is there, and lists it.
	fill() []facts.Change
	// carry takes up what has changed in what the layer stands above, and lists what it changes itself by that.
	carry(came []facts.Change) []facts.Change
	// support tells in how many ways a tuple of one of the layer's names follows.
	support(name string, tuple facts.Tuple) facts.Count
}

// common is what all layers have. The store is that of all layers, but each writes into the relations of its own
// names alone, and looks at no others than those that it stands above.
type common struct {
	rules []rules.Rule
	store facts.Store
}

// eachGain goes through the places in bodies whose literals hold by the shift for tuples for which they did not.
func (c *common) eachGain(shift facts.Shift, see func(rule rules.Rule, place int, tuples facts.Relation)) {
	for _, rule := range c.rules {
		for place := range rule.Size() {
			if tuples := rule.Gained(place, shift); len(tuples) > 0 {
				see(rule, place, tuples)
			}
		}
	}
}

func newLayer(from program.Layer, store facts.Store) layer {
	shared := common{store: store}
	for _, clause := range from.Rules {
		shared.rules = append(shared.rules, rules.New(clause))
	}
	if from.Reaching {
		return &reaching{common: shared}
	}
	return &counting{common: shared, supports: map[facts.Tuple]facts.Count{}}
}
