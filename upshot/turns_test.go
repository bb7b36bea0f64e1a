package upshot_test

import (
	"testing"

	"upshot/api"
)

// Engines of one program and of others, in turns: each goes by its own calls alone.
func TestEnginesInTurns(t *testing.T) {
	const text = "p(X,Y) :- e(X,Y). p(X,Z) :- p(X,Y), e(Y,Z). q(X) :- n(X), !p(X,X). e(a,b). n(a)."
	first, second, third := load(t, text), load(t, text), load(t, "e(X) :- p(X), !n(X). p(a). n(b).")
	checkApply(t, first, "e(b,a)", "e(b,a) p(a,a) p(b,a) p(b,b) -q(a)")
	checkApply(t, second, "n(b) -e(a,b)", "-e(a,b) n(b) -p(a,b) q(b)")
	checkApply(t, third, "p(b) p(c)", "e(c) p(b) p(c)")
	checkApply(t, first, "n(b)", "n(b)")
	checkRefused(t, second, changesOf("e(b,a) p(a,b)"), api.ErrDerived, 1)
	checkRefused(t, third, changesOf("-p(b) e(a)"), api.ErrDerived, 1)
	checkApply(t, second, "e(b,a)", "e(b,a) p(b,a)")
	checkApply(t, third, "-n(b) n(c)", "e(b) -e(c) -n(b) n(c)")
	checkApply(t, first, "-e(b,a)", "-e(b,a) -p(a,a) -p(b,a) -p(b,b) q(a) q(b)")
	checkSupport(t, first, "p", []string{"a", "b"}, 1, api.OK)
	checkSupport(t, second, "p", []string{"a", "b"}, 0, api.OK)
	checkSupport(t, third, "e", []string{"a"}, 1, api.OK)
	checkDump(t, first, "e(a,b) n(a) n(b) p(a,b) q(a) q(b)")
	checkDump(t, second, "e(b,a) n(a) n(b) p(b,a) q(a) q(b)")
	checkDump(t, third, "e(a) e(b) n(c) p(a) p(b) p(c)")
	// Two that have come by other ways to the same base facts tell the same.
	checkApply(t, second, "-e(b,a) e(a,b)", "e(a,b) -e(b,a) p(a,b) -p(b,a)")
	checkSame(t, first, second, "p q e n", []string{"a", "b"})
}

// Query, Support and Dump between calls of Apply.
func TestAskedBetweenCalls(t *testing.T) {
	engine := load(t, "p(X,Y) :- e(X,Y). p(X,Z) :- p(X,Y), p(Y,Z). s(X) :- p(X,Y), !n(Y). e(a,b). e(b,c).")
	ask := func(p, s string, ac, supportS int) {
		t.Helper()
		checkQuery(t, engine, "p", []string{"_", "_"}, p, api.OK)
		checkQuery(t, engine, "s", []string{"_"}, s, api.OK)
		checkSupport(t, engine, "p", []string{"a", "c"}, ac, api.OK)
		checkSupport(t, engine, "s", []string{"a"}, supportS, api.OK)
	}
	ask("a,b a,c b,c", "a b", 1, 2)
	checkApply(t, engine, "e(a,c) n(b)", "e(a,c) n(b)")
	ask("a,b a,c b,c", "a b", 2, 1)
	checkApply(t, engine, "-e(a,b) e(c,c)", "-e(a,b) e(c,c) -p(a,b) p(c,c) s(c)")
	ask("a,c b,c c,c", "a b c", 2, 1)
	checkApply(t, engine, "n(c)", "n(c) -s(a) -s(b) -s(c)")
	ask("a,c b,c c,c", "", 2, 0)
	checkApply(t, engine, "-e(c,c) -e(a,c) -n(c)", "-e(a,c) -e(c,c) -n(c) -p(a,c) -p(c,c) s(b)")
	ask("b,c", "b", 0, 0)
	checkQuery(t, engine, "n", []string{"_"}, "b", api.OK)
	checkQuery(t, engine, "e", []string{"b", "_"}, "b,c", api.OK)
}
