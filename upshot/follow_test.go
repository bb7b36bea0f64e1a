package upshot_test

import (
	"strings"
	"testing"
)

// lines writes facts as Dump does.
func lines(facts string) string {
	if facts == "" {
		return ""
	}
	return strings.ReplaceAll(facts, " ", ".\n") + ".\n"
}

// followed is a program, and all facts that there are by it.
type followed struct{ text, facts string }

func checkFollowed(t *testing.T, cases []followed) {
	t.Helper()
	for _, c := range cases {
		if got, want := load(t, c.text).Dump(), lines(c.facts); got != want {
			t.Errorf("Dump of %q is %q, want %q", c.text, got, want)
		}
	}
}

func TestExamples(t *testing.T) {
	checkFollowed(t, []followed{
		{"edge(a,b). edge(b,c). path(X,Y) :- edge(X,Y). path(X,Z) :- path(X,Y), edge(Y,Z).", "edge(a,b) edge(b,c) path(a,b) path(a,c) path(b,c)"},
		{"q(X) :- n(X), !r(X). r(X) :- m(X). n(1). n(2). m(2).", "m(2) n(1) n(2) q(1) r(2)"},
		{"s(X) :- e(X,Y). e(a,b). e(a,c).", "e(a,b) e(a,c) s(a)"},
	})
}

func TestRulesWithoutVariables(t *testing.T) {
	checkFollowed(t, []followed{
		{"p(a) :- q(b).", ""},
		{"p(a) :- q(b). q(b).", "p(a) q(b)"},
		{"p(a) :- q(b). q(a).", "q(a)"},
		{"p(a) :- !q(b).", "p(a)"},
		{"p(a) :- !q(b). q(b).", "q(b)"},
		{"p(a) :- !q(b). q(a).", "p(a) q(a)"},
		{"p(a) :- !q(b), !r(c).", "p(a)"},
		{"p(a) :- !q(b), !r(c). r(c).", "r(c)"},
		{"p(a) :- q(a), !q(b), r(c,d). q(a). r(c,d).", "p(a) q(a) r(c,d)"},
		{"p(a) :- q(a), !q(a). q(a).", "q(a)"},
		{"p(a) :- q(b), q(b), q(b), q(b). q(b).", "p(a) q(b)"},
		{"p(a) :- !q(a). r(b) :- p(a). s(c) :- !r(b). u(d) :- r(b), !s(c).", "p(a) r(b) u(d)"},
	})
}

func TestConstantsInRules(t *testing.T) {
	checkFollowed(t, []followed{
		{"p(a,X) :- q(X). q(z). q(y).", "p(a,y) p(a,z) q(y) q(z)"},
		{"p(X) :- e(a,X). e(a,b). e(b,c). e(a,a).", "e(a,a) e(a,b) e(b,c) p(a) p(b)"},
		{"p(X) :- e(X,Y), e(Y,c). e(a,b). e(b,c). e(c,c).", "e(a,b) e(b,c) e(c,c) p(a) p(b) p(c)"},
		{"p(b) :- e(a,X). e(a,c). e(b,c).", "e(a,c) e(b,c) p(b)"},
		{"p(x,X,x) :- e(X,x). e(x,x). e(y,x). e(x,y).", "e(x,x) e(x,y) e(y,x) p(x,x,x) p(x,y,x)"},
		// What a head brings goes on through other rules.
		{"p(1) :- e(X). q(X,2) :- p(X). r(X,Y) :- q(X,Y), !e(Y). e(0).", "e(0) p(1) q(1,2) r(1,2)"},
		{"p(X) :- q(X), !e(X,a). q(a). q(b). e(a,a). e(b,b).", "e(a,a) e(b,b) p(b) q(a) q(b)"},
	})
}

func TestVariablesThatStandTwice(t *testing.T) {
	checkFollowed(t, []followed{
		{"p(X) :- e(X,X). e(a,a). e(a,b).", "e(a,a) e(a,b) p(a)"},
		{"p(X,Y) :- t(X,Y,X). t(a,b,a). t(a,b,b). t(b,b,b). t(a,a,b).", "p(a,b) p(b,b) t(a,a,b) t(a,b,a) t(a,b,b) t(b,b,b)"},
		{"p(X,X) :- q(X). q(a). q(b).", "p(a,a) p(b,b) q(a) q(b)"},
		{"p(X,Y,X) :- e(X,Y). e(a,b).", "e(a,b) p(a,b,a)"},
		{"p(X) :- q(X), !e(X,X). q(a). q(b). e(a,a). e(a,b).", "e(a,a) e(a,b) p(b) q(a) q(b)"},
		{"p(X) :- q(X), r(X). q(a). q(b). r(b). r(c).", "p(b) q(a) q(b) r(b) r(c)"},
		{"p(X,Y) :- e(X,Y), e(Y,X). e(a,b). e(b,a). e(b,c). e(d,d).", "e(a,b) e(b,a) e(b,c) e(d,d) p(a,b) p(b,a) p(d,d)"},
		// The same variable in two rules is not the same.
		{"p(X) :- q(X). r(X) :- s(X). q(a). s(b).", "p(a) q(a) r(b) s(b)"},
	})
}

func TestJoins(t *testing.T) {
	checkFollowed(t, []followed{
		{"p(X,Y) :- q(X), r(Y). q(a). q(b). r(b). r(c).", "p(a,b) p(a,c) p(b,b) p(b,c) q(a) q(b) r(b) r(c)"},
		{"p(X,W) :- e(X,Y), e(Y,Z), e(Z,W). e(a,b). e(b,c). e(c,d). e(d,a).", "e(a,b) e(b,c) e(c,d) e(d,a) p(a,d) p(b,a) p(c,b) p(d,c)"},
		{"p(X) :- e(X,Y), e(Y,Z), e(Z,X). e(a,b). e(b,c). e(c,a). e(c,d). e(d,c).", "e(a,b) e(b,c) e(c,a) e(c,d) e(d,c) p(a) p(b) p(c)"},
		{"p(X) :- q(X), r(Y). q(a). q(b).", "q(a) q(b)"},
		{"p(X) :- q(X), r(Y), !s(X,Y). q(a). q(b). r(1). r(2). s(a,1). s(a,2). s(b,1).", "p(b) q(a) q(b) r(1) r(2) s(a,1) s(a,2) s(b,1)"},
		{"p(A,B,C) :- t(A,X,Y), t(X,B,Z), t(Y,Z,C). t(a,b,c). t(b,d,e). t(c,e,f).", "p(a,d,f) t(a,b,c) t(b,d,e) t(c,e,f)"},
		// What several rules have for one name.
		{"p(X) :- q(X). p(X) :- r(X). p(c) :- q(a). q(a). r(b).", "p(a) p(b) p(c) q(a) r(b)"},
	})
}

func TestNegatedAtoms(t *testing.T) {
	checkFollowed(t, []followed{
		// Of base names, of derived ones, and of names of which there is nothing.
		{"p(X) :- q(X), !r(X). q(a). q(b). r(b).", "p(a) q(a) q(b) r(b)"},
		{"p(X) :- q(X), !r(X). r(X) :- s(X,Y). q(a). q(b). s(b,c).", "p(a) q(a) q(b) r(b) s(b,c)"},
		{"p(X) :- q(X), !r(X). q(a).", "p(a) q(a)"},
		{"p(X) :- !r(X), q(X). q(a). r(a).", "q(a) r(a)"},
		{"p(X) :- q(X), !q(X). q(a).", "q(a)"},
		// A variable that no atom but the negated one needs.
		{"p(a) :- q(X), !r(X). q(b). q(c). r(b).", "p(a) q(b) q(c) r(b)"},
		{"p(a) :- q(X), !r(X). q(b). r(b).", "q(b) r(b)"},
		{"p(X,Y) :- q(X), q(Y), !r(X,Y), !r(Y,X). q(a). q(b). r(a,b). r(b,b).", "p(a,a) q(a) q(b) r(a,b) r(b,b)"},
		// Several layers of negation.
		{"a(X) :- n(X), !z(X). b(X) :- n(X), !a(X). c(X) :- n(X), !b(X). d(X) :- n(X), !c(X), !z(X). n(1). n(2). z(2).",
			"a(1) b(2) c(1) n(1) n(2) z(2)"},
		{"d(X) :- n(X), !c(X). c(X) :- n(X), !b(X). b(X) :- n(X), !a(X). a(X) :- n(X), m(X). n(1). n(2). m(1).",
			"a(1) b(2) c(1) d(2) m(1) n(1) n(2)"},
		// Of names that stand above themselves.
		{"far(X) :- n(X), !near(X). near(X) :- start(X). near(Y) :- near(X), e(X,Y). n(a). n(b). n(c). start(a). e(a,b). e(c,b).",
			"e(a,b) e(c,b) far(c) n(a) n(b) n(c) near(a) near(b) start(a)"},
		{"p(X) :- q(X). p(Y) :- p(X), e(X,Y), !stop(Y). stop(X) :- wall(X), !door(X). q(a). e(a,b). e(b,c). e(c,d). wall(b). wall(c). door(b).",
			"door(b) e(a,b) e(b,c) e(c,d) p(a) p(b) q(a) stop(c) wall(b) wall(c)"},
	})
}

func TestNamesThatStandAboveThemselves(t *testing.T) {
	checkFollowed(t, []followed{
		// Nothing follows from itself alone.
		{"p(X) :- p(X). q(a).", "q(a)"},
		{"p(a) :- p(a).", ""},
		{"p(a) :- p(b). p(b) :- p(a).", ""},
		{"p(X) :- r(X). r(X) :- p(X). q(a).", "q(a)"},
		{"p(X) :- q(X), r(X). r(X) :- q(X), p(X). q(a).", "q(a)"},
		{"p(X) :- r(X). r(X) :- p(X). s(X) :- q(X), !p(X). q(a).", "q(a) s(a)"},
		// With something to begin with, it does.
		{"p(X) :- p(X). p(X) :- q(X). q(a).", "p(a) q(a)"},
		{"p(X) :- r(X). r(X) :- p(X). r(X) :- q(X). q(a). q(b).", "p(a) p(b) q(a) q(b) r(a) r(b)"},
		{"p(X,Y) :- e(Y,X). e(a,b). p(X,Y) :- p(Y,X).", "e(a,b) p(a,b) p(b,a)"},
		{"p(X,Y) :- e(X,Y). p(X,Z) :- p(X,Y), p(Y,Z). e(a,b). e(b,c). e(c,d).", "e(a,b) e(b,c) e(c,d) p(a,b) p(a,c) p(a,d) p(b,c) p(b,d) p(c,d)"},
		{"p(X,Y) :- e(X,Y). p(X,Z) :- e(X,Y), p(Y,Z). e(a,b). e(b,a).", "e(a,b) e(b,a) p(a,a) p(a,b) p(b,a) p(b,b)"},
		{"even(X) :- zero(X). even(Y) :- odd(X), next(X,Y). odd(Y) :- even(X), next(X,Y). zero(0). next(0,1). next(1,2). next(2,3).",
			"even(0) even(2) next(0,1) next(1,2) next(2,3) odd(1) odd(3) zero(0)"},
		{"a(X) :- c(X). b(X) :- a(X). c(X) :- b(X). b(X) :- d(X). e(X) :- a(X), !f(X). d(1). d(2). f(2).", "a(1) a(2) b(1) b(2) c(1) c(2) d(1) d(2) e(1) f(2)"},
		// One atom that is there already, and one that has just come, whichever of them stands first.
		{"p(X) :- q(X). p(Z) :- p(X), p(Y), s(X,Y,Z). q(1). s(1,1,2). s(2,1,3). s(1,3,4). s(4,4,5). s(6,1,7).",
			"p(1) p(2) p(3) p(4) p(5) q(1) s(1,1,2) s(1,3,4) s(2,1,3) s(4,4,5) s(6,1,7)"},
		{"p(X) :- q(X). p(Z) :- p(X), p(Y), p(W), s(X,Y,Z). r(X) :- p(X). p(X) :- r(X). q(1). s(1,1,2). s(2,2,3).",
			"p(1) p(2) p(3) q(1) r(1) r(2) r(3) s(1,1,2) s(2,2,3)"},
		{"p(X,Y,Z) :- b(X,Y,Z). p(Y,Z,X) :- p(X,Y,Z). b(1,2,3). b(1,1,2).",
			"b(1,1,2) b(1,2,3) p(1,1,2) p(1,2,1) p(1,2,3) p(2,1,1) p(2,3,1) p(3,1,2)"},
	})
}

// Each name is in a layer of its own, each layer hangs on several ones below it.
func TestManyLayers(t *testing.T) {
	checkFollowed(t, []followed{
		{"a(1). a(2). b(X) :- a(X). c(X) :- a(X), b(X). d(X) :- b(X), c(X). e(X,Y) :- c(X), d(Y), !f(Y,X). f(1,1) :- d(1). g(X) :- e(X,X). h(X) :- a(X), !g(X).",
			"a(1) a(2) b(1) b(2) c(1) c(2) d(1) d(2) e(1,2) e(2,1) e(2,2) f(1,1) g(2) h(1)"},
	})
}

// A program's clauses may stand in any order.
func TestOrderOfClauses(t *testing.T) {
	clauses := []string{"p(X) :- q(X), !r(X).", "q(X) :- n(X).", "q(Y) :- q(X), e(X,Y).", "r(X) :- e(X,X).", "e(a,b). e(b,b). e(c,a).", "n(a)."}
	want := lines("e(a,b) e(b,b) e(c,a) n(a) p(a) q(a) q(b) r(b)")
	eachOrder(clauses, func(order []string) {
		engine := load(t, strings.Join(order, " "))
		if got := engine.Dump(); got != want {
			t.Errorf("Dump of %q is %q, want %q", order, got, want)
		}
		for fact, support := range map[string]int{"a": 1, "b": 2, "c": 0} {
			checkSupport(t, engine, "q", []string{fact}, support, 0)
		}
	})
}
