package program

import "upshot/syntax"

// pair is a name that stands above another one.
type pair struct {
	upper, lower string
}

// hasLayers tells whether no name stands above one that it is negated by, and that one above it.
func hasLayers(clauses []syntax.Clause) bool {
	above := standing(clauses)
	for _, clause := range clauses {
		for _, literal := range clause.Body {
			// The head stands above each name of its body, so only the other way is to be asked.
			_, back := above[pair{literal.Name, clause.Head.Name}]
			if literal.Negated && back {
				return false
			}
		}
	}
	return true
}

// standing gives all pairs of a name and one that it stands above, by one rule or by several.
func standing(clauses []syntax.Clause) map[pair]struct{} {
	above := map[pair]struct{}{}
	for _, clause := range clauses {
		for _, literal := range clause.Body {
			above[pair{clause.Head.Name, literal.Name}] = struct{}{}
		}
	}
	names := allNames(clauses)
	for _, middle := range names {
		for _, upper := range names {
			if _, ok := above[pair{upper, middle}]; ok {
				standAbove(above, upper, middle, names)
			}
		}
	}
	return above
}

// standAbove lays the name upper above all that the name middle stands above.
func standAbove(above map[pair]struct{}, upper, middle string, names []string) {
	for _, lower := range names {
		if _, ok := above[pair{middle, lower}]; ok {
			above[pair{upper, lower}] = struct{}{}
		}
	}
}

// allNames lists the names of the clauses, each once, as they come.
func allNames(clauses []syntax.Clause) []string {
	seen := map[string]struct{}{}
	var names []string
	for _, clause := range clauses {
		for _, atom := range clause.Atoms() {
			if _, ok := seen[atom.Name]; !ok {
				seen[atom.Name] = struct{}{}
				names = append(names, atom.Name)
			}
		}
	}
	return names
}
