package program

import (
	"cmp"
	"slices"

	"upshot/syntax"
)

// Layer is the rules of a derived name; or of several that stand above one another.
type Layer struct {
	Rules    []syntax.Clause
	Reaching bool // the names stand above themselves
}

// Layers lists the layers of clauses that have such, each behind those that it stands above.
func Layers(clauses []syntax.Clause) []Layer {
	above := standing(clauses)
	var list []Layer
	done := map[string]struct{}{}
	for _, name := range upwards(clauses, above) {
		if _, ok := done[name]; ok {
			continue
		}
		group := together(name, clauses, above)
		for member := range group {
			done[member] = struct{}{}
		}
		if rules := rulesFor(group, clauses); len(rules) > 0 {
			_, reaching := above[pair{name, name}]
			list = append(list, Layer{Rules: rules, Reaching: reaching})
		}
	}
	return list
}

// upwards lists the names, each behind all those that it stands above and that do not stand above it.
func upwards(clauses []syntax.Clause, above map[pair]struct{}) []string {
	names := allNames(clauses)
	heights := map[string]int{}
	for _, upper := range names {
		for _, lower := range names {
			// With itself counted in any case, a name has more below than each one below that is not above it.
			if _, ok := above[pair{upper, lower}]; ok || upper == lower {
				heights[upper]++
			}
		}
	}
	slices.SortStableFunc(names, func(a, b string) int { return cmp.Compare(heights[a], heights[b]) })
	return names
}

// together gives the name, and those that it stands above and that stand above it.
func together(name string, clauses []syntax.Clause, above map[pair]struct{}) map[string]struct{} {
	group := map[string]struct{}{name: {}}
	for _, other := range allNames(clauses) {
		_, down := above[pair{name, other}]
		_, up := above[pair{other, name}]
		if down && up {
			group[other] = struct{}{}
		}
	}
	return group
}

// rulesFor lists the rules whose heads have a name of the group.
func rulesFor(group map[string]struct{}, clauses []syntax.Clause) []syntax.Clause {
	var rules []syntax.Clause
	for _, clause := range clauses {
		if _, ok := group[clause.Head.Name]; ok && !clause.IsFact() {
			rules = append(rules, clause)
		}
	}
	return rules
}

// pair is a name that stands above another one.
type pair struct {
	upper, lower string
}

// hasLayers tells whether no name stands above one that it is negated by, and that one above it.
func hasLayers(clauses []syntax.Clause) bool {
	above := standing(clauses)
	for _, clause := range clauses {
		for _, literal := range clause.Body {
			// The head stands above each name of its body, so only the other way is to be asked.
			_, back := above[pair{literal.Name, clause.Head.Name}]
			if literal.Negated && back {
				return false
			}
		}
	}
	return true
}

// standing gives all pairs of a name and one that it stands above, by one rule or by several.
func standing(clauses []syntax.Clause) map[pair]struct{} {
	above := map[pair]struct{}{}
	for _, clause := range clauses {
		for _, literal := range clause.Body {
			above[pair{clause.Head.Name, literal.Name}] = struct{}{}
		}
	}
	names := allNames(clauses)
	for _, middle := range names {
		for _, upper := range names {
			if _, ok := above[pair{upper, middle}]; ok {
				standAbove(above, upper, middle, names)
			}
		}
	}
	return above
}

// standAbove lays the name upper above all that the name middle stands above.
func standAbove(above map[pair]struct{}, upper, middle string, names []string) {
	for _, lower := range names {
		if _, ok := above[pair{middle, lower}]; ok {
			above[pair{upper, lower}] = struct{}{}
		}
	}
}

// allNames lists the names of the clauses, each once, as they come.
func allNames(clauses []syntax.Clause) []string {
	seen := map[string]struct{}{}
	var names []string
	for _, clause := range clauses {
		for _, atom := range clause.Atoms() {
			if _, ok := seen[atom.Name]; !ok {
				seen[atom.Name] = struct{}{}
				names = append(names, atom.Name)
			}
		}
	}
	return names
}
