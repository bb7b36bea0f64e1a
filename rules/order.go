package rules

import "slices"

// step is what a join does with one literal: each binding is spread to as many as there are tuples that agree with it.
type step struct {
	sieve
	part  part
	known variables // those of the literal that are bound ahead of the step
	fresh variables // those that it binds, and that are needed behind it
	rows  rows
}

// sieve is what bindings must pass behind a step, and what is kept of them.
type sieve struct {
	asks []part    // whose variables are all bound now
	live variables // what is still needed: the variables of the head, and of the literals behind
}

// newSieve makes the sieve for where some variables are bound, and gives the literals that are left behind it.
func newSieve(bound variables, parts []part, head variables) (sieve, []part) {
	var asks, rest []part
	for _, p := range parts {
		if p.variables()&^bound == 0 {
			asks = append(asks, p)
		} else {
			rest = append(rest, p)
		}
	}
	return sieve{asks: asks, live: bound & (head | variablesOf(rest))}, rest
}

// cheapest finds the steps through the rest of a rule's literals that have the least to do, and how much that is.
// The order makes no odds to what is found, but long rules would not come to an end in any other.
func cheapest(live variables, rest []part, head variables) ([]step, int) {
	var best []step
	least := 0
	for i, next := range rest {
		// Those that are negated are asked, as soon as they can be.
		if next.negated {
			continue
		}
		first, left := newStep(live, rest, i, head)
		others, cost := cheapest(first.live, left, head)
		cost += price(live | first.fresh)
		if best == nil || cost < least {
			best, least = append([]step{first}, others...), cost
		}
	}
	return best, least
}

// newStep makes the step for one literal of the rest, and gives the literals that are left behind it.
func newStep(live variables, rest []part, chosen int, head variables) (step, []part) {
	others := slices.Delete(slices.Clone(rest), chosen, chosen+1)
	own := rest[chosen].variables()
	fresh := own & (head | variablesOf(others)) &^ live
	behind, left := newSieve(live|fresh, others, head)
	return step{sieve: behind, part: rest[chosen], known: own & live, fresh: fresh}, left
}

// price is about how many bindings there can be of some variables, with 32 constants for each:
// so the sum for all of a rule's literals is still an int.
func price(vs variables) int { return 1 << (5 * vs.size()) }
