package upshot_test

import (
	"math/rand/v2"
	"slices"
	"strings"
	"testing"

	"upshot/api"
	"upshot/upshot"
)

// What follows, told in the plainest way: by trying all constants for all variables, over and over.

type testAtom struct {
	name  string
	terms []string
}

type testLiteral struct {
	testAtom
	negated bool
}

type testClause struct {
	head testAtom
	body []testLiteral
}

func (a testAtom) text() string { return a.name + "(" + strings.Join(a.terms, ",") + ")" }

func (c testClause) text() string {
	text, sign := c.head.text(), ":-"
	for _, l := range c.body {
		if l.negated {
			sign += "!"
		}
		text += sign + l.text()
		sign = ","
	}
	return text + "."
}

func isVariable(term string) bool { return 'A' <= term[0] && term[0] <= 'Z' }

// bound is the atom with constants for its variables.
func (a testAtom) bound(constants map[string]string) testAtom {
	terms := slices.Clone(a.terms)
	for i, term := range terms {
		if isVariable(term) {
			terms[i] = constants[term]
		}
	}
	return testAtom{a.name, terms}
}

func (c testClause) atoms() []testAtom {
	atoms := []testAtom{c.head}
	for _, l := range c.body {
		atoms = append(atoms, l.testAtom)
	}
	return atoms
}

// termsOf lists the variables or the constants of the clauses, each once.
func termsOf(clauses []testClause, variables bool) []string {
	var terms []string
	for _, c := range clauses {
		for _, a := range c.atoms() {
			for _, term := range a.terms {
				if isVariable(term) == variables && !slices.Contains(terms, term) {
					terms = append(terms, term)
				}
			}
		}
	}
	return terms
}

// eachHead calls see with the head of the clause for all constants by which its body holds.
func eachHead(c testClause, constants []string, there map[string]bool, see func(testAtom)) {
	variables := termsOf([]testClause{c}, true)
	values := map[string]string{}
	var choose func(i int)
	choose = func(i int) {
		if i < len(variables) {
			for _, constant := range constants {
				values[variables[i]] = constant
				choose(i + 1)
			}
			return
		}
		for _, l := range c.body {
			if there[l.bound(values).text()] == l.negated {
				return
			}
		}
		see(c.head.bound(values))
	}
	choose(0)
}

// heights numbers the names, so that no head is below its body, and each is above what it is negated by; if it can.
func heights(clauses []testClause) (map[string]int, bool) {
	numbers := map[string]int{}
	for range 100 {
		changed := false
		for _, c := range clauses {
			for _, l := range c.body {
				least := numbers[l.name]
				if l.negated {
					least++
				}
				if numbers[c.head.name] < least {
					numbers[c.head.name], changed = least, true
				}
			}
		}
		if !changed {
			return numbers, true
		}
	}
	return nil, false
}

// naive gives all facts that there are, and the supports of those that follow.
func naive(clauses []testClause, numbers map[string]int) (map[string]bool, map[string]int) {
	constants := termsOf(clauses, false)
	there := map[string]bool{}
	for height := range 101 {
		for changed := true; changed; {
			changed = false
			for _, c := range clauses {
				if numbers[c.head.name] == height {
					eachHead(c, constants, there, func(head testAtom) {
						changed = changed || !there[head.text()]
						there[head.text()] = true
					})
				}
			}
		}
	}
	supports := map[string]int{}
	for _, c := range clauses {
		if len(c.body) > 0 {
			eachHead(c, constants, there, func(head testAtom) { supports[head.text()]++ })
		}
	}
	return there, supports
}

// arities of the names of programs made by chance: a to c are base, the others derived.
func arityOf(name string) int { return int("12212312"[name[0]-'a'] - '0') }

func randomAtom(random *rand.Rand, names string, terms []string) testAtom {
	i := random.IntN(len(names))
	a := testAtom{name: names[i : i+1]}
	for range arityOf(a.name) {
		a.terms = append(a.terms, terms[random.IntN(len(terms))])
	}
	return a
}

// randomRule makes a rule with one of the heads, which looks at some names, and is negated by some.
func randomRule(random *rand.Rand, heads, names, negated string) testClause {
	var c testClause
	terms := []string{"X", "Y", "Z", "X", "Y", "Z", "W", "1", "2"}
	count := random.IntN(api.MaxBody + 1)
	bound := []string{"1", "3"}
	for range count {
		l := testLiteral{testAtom: randomAtom(random, names, terms)}
		c.body = append(c.body, l)
		bound = append(bound, l.terms...)
	}
	for range random.IntN(min(3, api.MaxBody+1-count)) {
		c.body = append(c.body, testLiteral{testAtom: randomAtom(random, negated, bound), negated: true})
	}
	random.Shuffle(len(c.body), func(i, k int) { c.body[i], c.body[k] = c.body[k], c.body[i] })
	c.head = randomAtom(random, heads, bound)
	return c
}

// randomProgram makes a program of some facts, and of some rules, which may have no bodies.
func randomProgram(random *rand.Rand) []testClause {
	var clauses []testClause
	for range 4 + random.IntN(6) {
		clauses = append(clauses, testClause{head: randomAtom(random, "abc", []string{"1", "2", "3", "x"})})
	}
	derived := "defgh"[:1+random.IntN(5)]
	for range 1 + random.IntN(2) {
		clauses = append(clauses, randomRule(random, derived, "abc", "abc"))
	}
	for range 1 + random.IntN(5) {
		clauses = append(clauses, randomRule(random, derived, "abb"+derived, "abc"+derived[len(derived)/2:]))
	}
	clauses = slices.DeleteFunc(clauses, func(c testClause) bool { return len(c.body) == 0 && c.head.name > "c" })
	random.Shuffle(len(clauses), func(i, k int) { clauses[i], clauses[k] = clauses[k], clauses[i] })
	return clauses
}

func textOf(clauses []testClause) string {
	var text strings.Builder
	for _, c := range clauses {
		text.WriteString(c.text())
	}
	return text.String()
}

// dumpOf writes facts of which no constant begins another one, so that the lines' order is the facts' order.
func dumpOf(there map[string]bool) string {
	var told []string
	for fact := range there {
		told = append(told, fact+".\n")
	}
	slices.Sort(told)
	return strings.Join(told, "")
}

// eachTuple calls see with all tuples of some constants.
func eachTuple(arity int, constants []string, see func([]string)) {
	tuple := make([]string, arity)
	for number := range power(len(constants), arity) {
		for i := range tuple {
			tuple[i] = constants[number%len(constants)]
			number /= len(constants)
		}
		see(slices.Clone(tuple))
	}
}

func checkAgainstNaive(t *testing.T, engine *upshot.Engine, clauses []testClause, there map[string]bool, supports map[string]int) {
	t.Helper()
	if got, want := engine.Dump(), dumpOf(there); got != want {
		t.Fatalf("Dump of %q is %q, want %q", textOf(clauses), got, want)
	}
	seen := map[string]bool{}
	for _, c := range clauses {
		for _, a := range c.atoms() {
			if seen[a.name] {
				continue
			}
			seen[a.name] = true
			derived := slices.ContainsFunc(clauses, func(c testClause) bool { return len(c.body) > 0 && c.head.name == a.name })
			eachTuple(len(a.terms), []string{"1", "2", "3", "x", "none"}, func(args []string) {
				want, fault := supports[testAtom{a.name, args}.text()], api.OK
				if !derived {
					want, fault = 0, api.ErrDerived
				}
				checkSupport(t, engine, a.name, args, want, fault)
			})
			eachTuple(len(a.terms), []string{"1", "x", "_"}, func(args []string) {
				checkQuery(t, engine, a.name, args, naiveQuery(there, a.name, args), api.OK)
			})
		}
	}
	if t.Failed() {
		t.Fatalf("the program is %q", textOf(clauses))
	}
}

// naiveQuery picks the tuples out of the lines of Dump.
func naiveQuery(there map[string]bool, name string, args []string) string {
	var found []string
	for _, line := range strings.Fields(dumpOf(there)) {
		head, tuple, _ := strings.Cut(strings.TrimSuffix(line, ")."), "(")
		agrees := head == name
		for i, constant := range strings.Split(tuple, ",") {
			agrees = agrees && (args[i] == "_" || args[i] == constant)
		}
		if agrees {
			found = append(found, tuple)
		}
	}
	return strings.Join(found, " ")
}

// tally counts programs that were tried, those with negation over negation, and those that names which reach
// themselves make a difference to.
type tally struct{ layered, deep, reaching int }

func (y *tally) try(t *testing.T, random *rand.Rand, clauses []testClause) {
	t.Helper()
	random.Shuffle(len(clauses), func(i, k int) { clauses[i], clauses[k] = clauses[k], clauses[i] })
	if len(textOf(clauses)) > api.MaxText {
		return
	}
	numbers, ok := heights(clauses)
	if !ok {
		wanted{textOf(clauses), api.ErrCycle, 0}.check(t)
		return
	}
	there, supports := naive(clauses, numbers)
	checkAgainstNaive(t, load(t, textOf(clauses)), clauses, there, supports)
	// The same clauses in another order: P8.
	random.Shuffle(len(clauses), func(i, k int) { clauses[i], clauses[k] = clauses[k], clauses[i] })
	checkAgainstNaive(t, load(t, textOf(clauses)), clauses, there, supports)
	y.layered++
	if height(numbers) > 1 {
		y.deep++
	}
	if others, _ := naive(withoutReaching(clauses), numbers); dumpOf(others) != dumpOf(there) {
		y.reaching++
	}
}

func (y tally) check(t *testing.T, layered, deep, reaching int) {
	t.Helper()
	if y.layered < layered || y.deep < deep || y.reaching < reaching {
		t.Errorf("too few programs were tried: %+v", y)
	}
}

func TestProgramsMadeByChance(t *testing.T) {
	random := rand.New(rand.NewPCG(1, 2))
	var y tally
	for range 6000 {
		y.try(t, random, randomProgram(random))
	}
	y.check(t, 2000, 300, 100)
}

// clauseOf makes a clause of its atoms' texts.
func clauseOf(head string, body ...string) testClause {
	c := testClause{head: atomOf(head)}
	for _, text := range body {
		bare := strings.TrimPrefix(text, "!")
		c.body = append(c.body, testLiteral{testAtom: atomOf(bare), negated: bare != text})
	}
	return c
}

func atomOf(text string) testAtom {
	name, terms, _ := strings.Cut(strings.TrimSuffix(text, ")"), "(")
	return testAtom{name: name, terms: strings.Split(terms, ",")}
}

// reachingProgram makes a program of rules by which names reach themselves and one another, over edges made by chance.
func reachingProgram(random *rand.Rand) []testClause {
	rules := []testClause{
		clauseOf("p(X,Z)", "p(X,Y)", "e(Y,Z)"),
		clauseOf("p(X,Z)", "p(X,Y)", "p(Y,Z)"),
		clauseOf("p(X,Z)", "r(X,Y)", "e(Y,Z)"),
		clauseOf("p(X,Y)", "p(Y,X)", "!e(X,Y)"),
		clauseOf("p(X,W)", "e(X,Y)", "r(Z,Y)", "p(Z,W)"),
		clauseOf("r(X,Z)", "p(X,Y)", "e(Y,Z)"),
		clauseOf("r(Y,X)", "p(X,Y)", "!f(Y)"),
		clauseOf("r(X,X)", "p(X,Y)", "r(Y,Z)"),
		clauseOf("r(X,Z)", "s(X,Y,Z)", "!e(X,Z)"),
		clauseOf("s(X,Y,Z)", "p(X,Y)", "r(Y,Z)", "p(X,Y)"),
		clauseOf("s(Y,Z,X)", "s(X,Y,Z)", "!f(X)"),
		clauseOf("s(X,Y,3)", "s(X,X,Y)"),
		clauseOf("f(X)", "e(X,X)"),
		clauseOf("g(X)", "e(X,Y)", "!p(X,Y)", "!r(X,Y)"),
		clauseOf("h(X,Y)", "p(X,Y)", "!g(Y)"),
		clauseOf("h(X,Z)", "h(X,Y)", "h(Y,Z)", "!s(X,Y,Z)"),
	}
	clauses := []testClause{clauseOf("p(X,Y)", "e(X,Y)")}
	for _, i := range random.Perm(len(rules))[:1+random.IntN(7)] {
		clauses = append(clauses, rules[i])
	}
	for range 2 + random.IntN(7) {
		clauses = append(clauses, testClause{head: testAtom{"e", []string{string("123x"[random.IntN(4)]), string("123x"[random.IntN(4)])}}})
	}
	return clauses
}

func TestReachingMadeByChance(t *testing.T) {
	random := rand.New(rand.NewPCG(3, 4))
	var y tally
	for range 1500 {
		y.try(t, random, reachingProgram(random))
	}
	y.check(t, 1000, 50, 500)
}

func height(numbers map[string]int) int {
	greatest := 0
	for _, number := range numbers {
		greatest = max(greatest, number)
	}
	return greatest
}

// withoutReaching leaves out the rules that have the name of their head in their body.
func withoutReaching(clauses []testClause) []testClause {
	return slices.DeleteFunc(slices.Clone(clauses), func(c testClause) bool {
		return slices.ContainsFunc(c.body, func(l testLiteral) bool { return l.name == c.head.name })
	})
}
