package upshot_test

import (
	"math/rand/v2"
	"slices"
	"strings"
	"testing"

	"upshot/api"
	"upshot/upshot"
)

// What is kept up, held against what the plainest evaluator finds from the base facts that there are.

// allNames is the names of programs made by chance.
const allNames = "a b c d e f g h p r s"

// world is an engine, its program, and the base facts that it is to have by now.
type world struct {
	engine *upshot.Engine
	text   string
	rules  []testClause
	base   map[string]bool
	names  []testAtom // the base names of the program, each as it stands somewhere
	there  map[string]bool
}

func newWorld(t *testing.T, clauses []testClause) *world {
	t.Helper()
	w := &world{engine: load(t, textOf(clauses)), text: textOf(clauses), base: map[string]bool{}}
	known := map[string]bool{}
	for _, c := range clauses {
		if len(c.body) == 0 {
			w.base[c.head.text()] = true
			continue
		}
		w.rules = append(w.rules, c)
		known[c.head.name] = true
	}
	for _, c := range clauses {
		for _, a := range c.atoms() {
			if !known[a.name] {
				w.names = append(w.names, a)
				known[a.name] = true
			}
		}
	}
	w.there, _ = w.naive()
	return w
}

// clauses lists the rules, and the base facts that there are.
func (w *world) clauses() []testClause {
	clauses := slices.Clone(w.rules)
	for fact := range w.base {
		clauses = append(clauses, clauseOf(fact))
	}
	return clauses
}

func (w *world) naive() (map[string]bool, map[string]int) {
	numbers, _ := heights(w.rules)
	return naive(w.clauses(), numbers)
}

// apply makes the changes here, by the document's words, and gives what is to be told.
func (w *world) apply(changes []api.Change) (string, map[string]int) {
	for _, c := range changes {
		if c.Gone {
			delete(w.base, testAtom{c.Name, c.Args}.text())
		}
	}
	for _, c := range changes {
		if !c.Gone {
			w.base[testAtom{c.Name, c.Args}.text()] = true
		}
	}
	before := w.there
	there, supports := w.naive()
	w.there = there
	return difference(before, there), supports
}

// difference writes what is on one side alone, in the order of facts (no constant begins another one here).
func difference(before, after map[string]bool) string {
	var facts []string
	for fact := range before {
		if !after[fact] {
			facts = append(facts, fact)
		}
	}
	for fact := range after {
		if !before[fact] {
			facts = append(facts, fact)
		}
	}
	slices.Sort(facts)
	for i, fact := range facts {
		if before[fact] {
			facts[i] = "-" + fact
		}
	}
	return strings.Join(facts, " ")
}

// randomChanges draws changes of base names; most of those that are Gone are of facts that are there.
func (w *world) randomChanges(random *rand.Rand, most int) []api.Change {
	var changes []api.Change
	if len(w.names) == 0 {
		return nil
	}
	facts := slices.Sorted(mapKeys(w.base))
	for range random.IntN(most + 1) {
		if len(facts) > 0 && random.IntN(5) < 2 {
			changes = append(changes, changeOf("-"+facts[random.IntN(len(facts))]))
			continue
		}
		name := w.names[random.IntN(len(w.names))]
		c := api.Change{Name: name.name, Gone: random.IntN(8) == 0}
		for range name.terms {
			c.Args = append(c.Args, []string{"1", "2", "3", "x", "new"}[random.IntN(5)])
		}
		changes = append(changes, c)
	}
	return changes
}

func mapKeys(m map[string]bool) func(func(string) bool) {
	return func(yield func(string) bool) {
		for key := range m {
			if !yield(key) {
				return
			}
		}
	}
}

// step makes changes by the engine and by the plainest evaluator, and gives how much they change.
func (w *world) step(t *testing.T, changes []api.Change, all bool) int {
	t.Helper()
	want, supports := w.apply(changes)
	got, fault, place := w.engine.Apply(changes...)
	if toldChanges(got) != want || fault != api.OK || place != len(changes) {
		t.Fatalf("Apply(%s) = %s, %d, %d; want %s, 0, %d; the program is %q", toldChanges(changes), toldChanges(got), fault, place, want, len(changes), w.text)
	}
	if got, want := w.engine.Dump(), dumpOf(w.there); got != want {
		t.Fatalf("Dump behind Apply(%s) is %q, want %q; the program is %q", toldChanges(changes), got, want, w.text)
	}
	if all {
		checkAgainstNaive(t, w.engine, w.clauses(), w.there, supports)
	}
	return len(got)
}

// walk makes some calls with one engine, and gives how much they change in all.
func walk(t *testing.T, random *rand.Rand, clauses []testClause, calls, most int) int {
	t.Helper()
	w := newWorld(t, clauses)
	changed := 0
	for call := range calls {
		changes := w.randomChanges(random, most)
		if len(w.base)+len(changes) > api.MaxFacts {
			continue
		}
		changed += w.step(t, changes, call == calls-1)
	}
	w.checkNew(t)
	return changed
}

// checkNew holds the engine against new ones that get the base facts at once: by their text, if it can have them all,
// and by Apply.
func (w *world) checkNew(t *testing.T) {
	t.Helper()
	var changes []api.Change
	for _, fact := range slices.Sorted(mapKeys(w.base)) {
		changes = append(changes, changeOf(fact))
	}
	other := load(t, w.text)
	var gone []api.Change
	for _, a := range w.names {
		tuples, _ := other.Query(a.name, slices.Repeat([]string{"_"}, len(a.terms))...)
		for _, tuple := range tuples {
			gone = append(gone, api.Change{Name: a.name, Args: tuple, Gone: true})
		}
	}
	if _, fault, _ := other.Apply(append(gone, changes...)...); fault != api.OK {
		t.Fatalf("Apply of all base facts tells %d", fault)
	}
	checkSame(t, w.engine, other, allNames, []string{"1", "x", "new"})
	if text := textOf(w.clauses()); len(text) <= api.MaxText && len(w.clauses()) <= api.MaxClauses {
		if got, want := w.engine.Dump(), load(t, text).Dump(); got != want {
			t.Fatalf("Dump is %q, and of an engine of the text %q %q", got, text, want)
		}
	}
}

func TestKeptUpInProgramsMadeByChance(t *testing.T) {
	random := rand.New(rand.NewPCG(7, 8))
	programs, changed := 0, 0
	for range 2500 {
		clauses := randomProgram(random)
		if _, ok := heights(clauses); !ok || len(textOf(clauses)) > api.MaxText {
			continue
		}
		programs++
		changed += walk(t, random, clauses, 6, 5)
	}
	if programs < 1000 || changed < 10*programs {
		t.Errorf("only %d programs were tried, with %d changes", programs, changed)
	}
}

func TestKeptUpWhereNamesReachThemselves(t *testing.T) {
	random := rand.New(rand.NewPCG(9, 10))
	programs, changed := 0, 0
	for range 500 {
		clauses := reachingProgram(random)
		if _, ok := heights(clauses); !ok || len(textOf(clauses)) > api.MaxText {
			continue
		}
		programs++
		changed += walk(t, random, clauses, 8, 4)
	}
	if programs < 300 || changed < 20*programs {
		t.Errorf("only %d programs were tried, with %d changes", programs, changed)
	}
}

// The order within a call is of no matter, nor is it whether changes come in one call or in several (first those that
// are Gone, then the others).
func TestOneCallOrSeveral(t *testing.T) {
	random := rand.New(rand.NewPCG(11, 12))
	for range 200 {
		clauses := reachingProgram(random)
		if _, ok := heights(clauses); !ok || len(textOf(clauses)) > api.MaxText {
			continue
		}
		w := newWorld(t, clauses)
		shuffled, single := load(t, w.text), load(t, w.text)
		for range 5 {
			changes := w.randomChanges(random, 5)
			if len(w.base)+len(changes) > api.MaxFacts {
				continue
			}
			w.step(t, changes, false)
			mixed := slices.Clone(changes)
			random.Shuffle(len(mixed), func(i, k int) { mixed[i], mixed[k] = mixed[k], mixed[i] })
			shuffled.Apply(mixed...)
			slices.SortStableFunc(mixed, func(a, b api.Change) int { return boolOrder(a.Gone) - boolOrder(b.Gone) })
			for _, change := range mixed {
				single.Apply(change)
			}
		}
		checkSame(t, w.engine, shuffled, allNames, []string{"1", "2", "3", "x", "new"})
		checkSame(t, w.engine, single, allNames, []string{"1", "2", "3", "x", "new"})
	}
}

func boolOrder(gone bool) int {
	if gone {
		return 0
	}
	return 1
}

// Each way to split a list of changes into two calls, and each order, where nothing is both taken away and laid.
func TestAllOrdersOfSomeChanges(t *testing.T) {
	const text = "p(X,Y) :- e(X,Y). p(X,Z) :- p(X,Y), p(Y,Z). q(X) :- n(X), !p(X,X). r(X) :- q(X), !m(X). e(a,b). e(b,c). n(a). n(b)."
	want := ""
	eachOrder([]string{"e(c,a)", "-e(a,b)", "n(c)", "m(b)", "-n(a)"}, func(order []string) {
		for cut := range len(order) + 1 {
			engine := load(t, text)
			engine.Apply(changesOf(strings.Join(order[:cut], " "))...)
			engine.Apply(changesOf(strings.Join(order[cut:], " "))...)
			got := engine.Dump()
			if want == "" {
				want = got
			}
			if got != want {
				t.Fatalf("Dump behind %v, cut at %d, is %q, and was %q", order, cut, got, want)
			}
		}
	})
	if want != lines("e(b,c) e(c,a) m(b) n(b) n(c) p(b,a) p(b,c) p(c,a) q(b) q(c) r(c)") {
		t.Errorf("Dump is %q", want)
	}
}

// Many calls with one engine, errors among them, up to MaxFacts base facts of ten constants.
func TestManyCalls(t *testing.T) {
	random := rand.New(rand.NewPCG(13, 14))
	for _, rules := range []string{
		"p(X,Y):-e(X,Y). p(X,Z):-p(X,Y),p(Y,Z). q(X):-n(X),!p(X,X). r(X,Y):-q(X),n(Y),!p(Y,X). s(X):-r(X,Y),!m(Y).",
		"p(X):-n(X). p(Y):-p(X),e(X,Y),!m(Y). q(X):-e(X,Y),!p(X). q(X):-q(Y),e(Y,X). r(X,Y):-q(X),p(Y). s(X):-r(X,X).",
		"p(X):-r(X,X). r(X,Y):-e(X,Y),!m(X). r(X,Z):-r(X,Y),r(Z,Y). r(Y,X):-p(X),r(X,Y). q(X):-n(X),e(X,Y),!r(Y,X). s(X):-q(X),q(Y),!e(X,Y).",
		"p(X,Y,Z):-e(X,Y),e(Y,Z). p(Y,Z,X):-p(X,Y,Z),!m(X). q(X):-p(X,Y,Z),p(Z,W,V),!n(W). r(a):-!q(b). r(b):-!m(a),!n(a). s(X):-e(X,Y),e(Y,Z),e(Z,X).",
	} {
		text := rules + "e(a,b). n(a). m(a)."
		engine, full := load(t, text), 0
		base := map[string]bool{"e(a,b)": true, "n(a)": true, "m(a)": true}
		for range 120 {
			changes := drawn(random, base)
			before := factsOf(engine)
			got, fault, place := engine.Apply(changes...)
			switch fault {
			case api.ErrFull:
				full++
			case api.OK:
				follow(base, changes)
			}
			if place != len(changes) || toldChanges(got) != difference(before, factsOf(engine)) {
				t.Fatalf("Apply(%s) = %s, %d, %d, but the facts change by %s", toldChanges(changes), toldChanges(got), fault, place, difference(before, factsOf(engine)))
			}
			checkSame(t, engine, fresh(t, text, base), "p q r s", []string{"a", "b", "c", "j"})
		}
		if full < 5 || full > 60 {
			t.Errorf("%d calls were refused in %q", full, rules)
		}
	}
}

// drawn draws changes of e, n and m; a call in ten is a great one.
func drawn(random *rand.Rand, base map[string]bool) []api.Change {
	var changes []api.Change
	size := 1 + random.IntN(6)
	if random.IntN(10) == 0 {
		size = 30
	}
	facts := slices.Sorted(mapKeys(base))
	for range size {
		a, b := string("abcdefghij"[random.IntN(10)]), string("abcdefghij"[random.IntN(10)])
		fact := []string{"e(" + a + "," + b + ")", "e(" + b + "," + a + ")", "n(" + a + ")", "m(" + b + ")"}[random.IntN(4)]
		if len(facts) > 0 && random.IntN(56) < len(facts) {
			fact = "-" + facts[random.IntN(len(facts))]
		}
		changes = append(changes, changeOf(fact))
	}
	return changes
}

// follow makes changes to base facts.
func follow(base map[string]bool, changes []api.Change) {
	for _, gone := range []bool{true, false} {
		for _, c := range changes {
			fact := testAtom{c.Name, c.Args}.text()
			if c.Gone == gone {
				base[fact] = !gone
			}
		}
	}
	for fact, there := range base {
		if !there {
			delete(base, fact)
		}
	}
}

func factsOf(engine *upshot.Engine) map[string]bool {
	facts := map[string]bool{}
	for _, line := range strings.Fields(engine.Dump()) {
		facts[strings.TrimSuffix(line, ".")] = true
	}
	return facts
}

// fresh is a new engine of a program, which gets the base facts in one call.
func fresh(t *testing.T, text string, base map[string]bool) *upshot.Engine {
	t.Helper()
	engine := load(t, text)
	changes := changesOf("-e(a,b) -n(a) -m(a)")
	for fact := range base {
		changes = append(changes, changeOf(fact))
	}
	if _, fault, _ := engine.Apply(changes...); fault != api.OK {
		t.Fatalf("Apply of all base facts tells %d", fault)
	}
	return engine
}
