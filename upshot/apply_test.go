package upshot_test

import (
	"strconv"
	"strings"
	"testing"

	"upshot/api"
	"upshot/upshot"
)

// changeOf reads a change like e(a,b), or -e(a,b) for one that is Gone.
func changeOf(text string) api.Change {
	a := atomOf(strings.TrimPrefix(text, "-"))
	return api.Change{Name: a.name, Args: a.terms, Gone: text[0] == '-'}
}

func changesOf(texts string) []api.Change {
	var changes []api.Change
	for _, text := range strings.Fields(texts) {
		changes = append(changes, changeOf(text))
	}
	return changes
}

// toldChanges writes changes as changesOf reads them.
func toldChanges(changes []api.Change) string {
	var texts []string
	for _, c := range changes {
		text := c.Name + "(" + strings.Join(c.Args, ",") + ")"
		if c.Gone {
			text = "-" + text
		}
		texts = append(texts, text)
	}
	return strings.Join(texts, " ")
}

func checkApply(t *testing.T, engine *upshot.Engine, changes, want string) {
	t.Helper()
	list := changesOf(changes)
	got, fault, place := engine.Apply(list...)
	if toldChanges(got) != want || fault != api.OK || place != len(list) {
		t.Errorf("Apply(%s) = %s, %d, %d; want %s, 0, %d", changes, toldChanges(got), fault, place, want, len(list))
	}
}

func checkDump(t *testing.T, engine *upshot.Engine, facts string) {
	t.Helper()
	if got, want := engine.Dump(), lines(facts); got != want {
		t.Errorf("Dump is %q, want %q", got, want)
	}
}

func TestApplyExample1(t *testing.T) {
	engine := load(t, "edge(a,b). edge(b,c). path(X,Y) :- edge(X,Y). path(X,Z) :- path(X,Y), edge(Y,Z).")
	checkQuery(t, engine, "path", []string{"a", "_"}, "a,b a,c", api.OK)
	checkApply(t, engine, "edge(c,a)", "edge(c,a) path(a,a) path(b,a) path(b,b) path(c,a) path(c,b) path(c,c)")
	checkQuery(t, engine, "path", []string{"a", "_"}, "a,a a,b a,c", api.OK)
	checkApply(t, engine, "-edge(b,c)", "-edge(b,c) -path(a,a) -path(a,c) -path(b,a) -path(b,b) -path(b,c) -path(c,c)")
	checkQuery(t, engine, "path", []string{"_", "_"}, "a,b c,a c,b", api.OK)
}

func TestApplyExample2(t *testing.T) {
	engine := load(t, "q(X) :- n(X), !r(X). r(X) :- m(X). n(1). n(2). m(2).")
	checkQuery(t, engine, "q", []string{"_"}, "1", api.OK)
	checkDump(t, engine, "m(2) n(1) n(2) q(1) r(2)")
	checkApply(t, engine, "m(1) -m(2)", "m(1) -m(2) -q(1) q(2) r(1) -r(2)")
	checkSupport(t, engine, "q", []string{"2"}, 1, api.OK)
	checkDump(t, engine, "m(1) n(1) n(2) q(2) r(1)")
}

func TestApplyExample3(t *testing.T) {
	engine := load(t, "s(X) :- e(X,Y). e(a,b). e(a,c).")
	checkSupport(t, engine, "s", []string{"a"}, 2, api.OK)
	checkApply(t, engine, "-e(a,b)", "-e(a,b)")
	checkSupport(t, engine, "s", []string{"a"}, 1, api.OK)
	checkApply(t, engine, "-e(a,c)", "-e(a,c) -s(a)")
	checkSupport(t, engine, "s", []string{"a"}, 0, api.OK)
}

func TestApplyExample5(t *testing.T) {
	engine := load(t, "edge(a,b). edge(b,c). path(X,Y) :- edge(X,Y). path(X,Z) :- path(X,Y), edge(Y,Z).")
	for _, c := range []struct {
		change string
		fault  api.Errno
	}{{"t(a)", api.ErrName}, {"edge(a)", api.ErrArity}, {"edge(a,B)", api.ErrSyntax}, {"path(a,b)", api.ErrDerived}} {
		checkRefused(t, engine, changesOf(c.change), c.fault, 0)
	}
	checkApply(t, engine, "-edge(x,y)", "")
	checkApply(t, engine, "edge(x,y)", "edge(x,y) path(x,y)")
	checkApply(t, engine, "-edge(x,y) edge(x,y)", "")
	checkDump(t, engine, "edge(a,b) edge(b,c) edge(x,y) path(a,b) path(a,c) path(b,c) path(x,y)")
}

// applied is calls of Apply, one behind the other, and what each tells.
type applied struct{ changes, want string }

func checkCalls(t *testing.T, text string, calls []applied) {
	t.Helper()
	engine := load(t, text)
	for _, c := range calls {
		checkApply(t, engine, c.changes, c.want)
	}
	if t.Failed() {
		t.Fatalf("the program is %q", text)
	}
}

// Facts that are taken away and laid by one call, twice, or though they are not there, or are.
func TestApplyOfFactsAlone(t *testing.T) {
	for _, text := range []string{"p(a). p(b). q(a,b).", "p(a). p(b). q(a,b). r(X) :- q(X,x), p(b), !p(x)."} {
		checkCalls(t, text, []applied{
			{"", ""},
			{"p(c)", "p(c)"},
			{"p(c)", ""},
			{"p(d) p(d)", "p(d)"},
			{"-p(e)", ""},
			{"-p(d) -p(d)", "-p(d)"},
			{"-p(d)", ""},
			// Taken away and laid: it is there, whether it was or not, and whichever stands first.
			{"-p(c) p(c)", ""},
			{"p(c) -p(c)", ""},
			{"-p(d) p(d)", "p(d)"},
			{"p(e) -p(e)", "p(e)"},
			{"p(f) -p(f) p(f) -p(f)", "p(f)"},
			{"-p(f) p(g) p(f) -p(g) -p(e) -p(d)", "-p(d) -p(e) p(g)"},
			{"-p(a) -p(b) -p(c) -p(f) -p(g) -q(a,b)", "-p(a) -p(b) -p(c) -p(f) -p(g) -q(a,b)"},
			{"-p(a)", ""},
			{"", ""},
			{"p(a)", "p(a)"},
		})
	}
	checkCalls(t, "", []applied{{"", ""}, {"", ""}})
}

// What has changed is told in the order of the facts, whatever comes or is gone, is base or derived.
func TestApplyOrder(t *testing.T) {
	checkCalls(t, "p(X,Y) :- e(X,Y). pa(X) :- p(X,Y). q(X) :- n(X), !pa(X). p1(X) :- m(X). n(1).", []applied{
		{"n(a0) n(ab) n(a) n(10) n(9) n(a_)", "n(10) n(9) n(a) n(a0) n(a_) n(ab) q(10) q(9) q(a) q(a0) q(a_) q(ab)"},
		{"m(1) e(ab,a) -n(1) e(a,b)", "e(a,b) e(ab,a) m(1) -n(1) p(a,b) p(ab,a) p1(1) pa(a) pa(ab) -q(1) -q(a) -q(ab)"},
		{"e(a,ab) e(a,a) -e(a,b) e(a0,z) -m(1)", "e(a,a) e(a,ab) -e(a,b) e(a0,z) -m(1) p(a,a) p(a,ab) -p(a,b) p(a0,z) -p1(1) pa(a0) -q(a0)"},
	})
}

func TestApplyToNamesThatCountSupports(t *testing.T) {
	checkCalls(t, "s(X) :- e(X,Y). s(X) :- e(Y,X). s(b) :- n(X). e(a,b). e(a,c).", []applied{
		{"-e(a,b)", "-e(a,b) -s(b)"},
		{"n(x) n(y)", "n(x) n(y) s(b)"},
		{"-n(x) e(b,b)", "e(b,b) -n(x)"},
		{"-n(y)", "-n(y)"},
		{"-e(b,b) n(z)", "-e(b,b) n(z)"},
		{"-n(z) -e(a,c)", "-e(a,c) -n(z) -s(a) -s(b) -s(c)"},
	})
	checkCalls(t, "p(X,Z) :- e(X,Y), e(Y,Z). two(X) :- e(X,Y), e(X,Z), !e(Y,Z). e(a,b). e(b,c).", []applied{
		// One fact that stands in several places of a body.
		{"e(b,b)", "e(b,b) p(a,b) p(b,b) p(b,c) -two(a)"},
		{"-e(b,b)", "-e(b,b) -p(a,b) -p(b,b) -p(b,c) two(a)"},
		{"-e(b,c) e(c,c)", "-e(b,c) e(c,c) -p(a,c) p(c,c) -two(b)"},
		{"e(b,c) -e(a,b) -e(c,c)", "-e(a,b) e(b,c) -e(c,c) -p(c,c) -two(a) two(b)"},
	})
	checkCalls(t, "p(a) :- !q(b). r(X) :- n(X), p(a). w(x) :- q(b), !q(c).", []applied{
		{"q(c) n(1)", "n(1) q(c) r(1)"},
		{"q(b) n(2)", "n(2) -p(a) q(b) -r(1)"},
		{"-q(b) -q(c) -n(1)", "-n(1) p(a) -q(b) -q(c) r(2)"},
		{"q(b)", "-p(a) q(b) -r(2) w(x)"},
	})
}

// Tuples that are in one another's ways to follow: they stand as long as something else holds them, and no longer.
func TestApplyToRings(t *testing.T) {
	checkCalls(t, "p(X) :- p(X). p(X) :- n(X).", []applied{
		{"n(a)", "n(a) p(a)"}, {"-n(a)", "-n(a) -p(a)"}, {"n(a) n(b)", "n(a) n(b) p(a) p(b)"}, {"-n(a)", "-n(a) -p(a)"},
	})
	checkCalls(t, "a(X) :- b(X). b(X) :- c(X). c(X) :- a(X). a(X) :- n(X). b(X) :- m(X). o(X) :- k(X), !c(X). k(x). n(x).", []applied{
		{"m(x)", "m(x)"},
		{"-n(x)", "-n(x)"},
		{"-m(x)", "-a(x) -b(x) -c(x) -m(x) o(x)"},
		{"m(x) n(y) k(y)", "a(x) a(y) b(x) b(y) c(x) c(y) k(y) m(x) n(y) -o(x)"},
		{"-m(x) n(x) -n(y) m(y)", "-m(x) m(y) n(x) -n(y)"},
		{"-n(x) -m(y)", "-a(x) -a(y) -b(x) -b(y) -c(x) -c(y) -m(y) -n(x) o(x) o(y)"},
	})
	checkCalls(t, "on(X) :- start(X). on(Y) :- on(X), e(X,Y). off(X) :- v(X), !on(X). start(1). e(1,2). e(2,3). e(3,2). e(3,4). v(2). v(4).", []applied{
		{"-e(1,2)", "-e(1,2) off(2) off(4) -on(2) -on(3) -on(4)"},
		{"e(1,4) e(4,3)", "e(1,4) e(4,3) -off(2) -off(4) on(2) on(3) on(4)"},
		{"e(1,2) -e(4,3)", "e(1,2) -e(4,3)"},
		{"-e(1,4) -e(3,2)", "-e(1,4) -e(3,2)"},
		{"start(3) -start(1)", "off(2) -on(1) -on(2) -start(1) start(3)"},
		{"-start(3)", "off(4) -on(3) -on(4) -start(3)"},
	})
}

// Negated atoms of names whose facts come and go, through several layers.
func TestApplyThroughNegatedAtoms(t *testing.T) {
	checkCalls(t, "a(X) :- n(X), !z(X). b(X) :- n(X), !a(X). c(X) :- n(X), !b(X). d(X) :- n(X), !c(X), !y(X). n(1). n(2).", []applied{
		{"z(1)", "-a(1) b(1) -c(1) d(1) z(1)"},
		{"z(2) y(2) -z(1)", "a(1) -a(2) -b(1) b(2) c(1) -c(2) -d(1) y(2) -z(1) z(2)"},
		{"-y(2)", "d(2) -y(2)"},
		{"-n(2) n(3) z(3)", "-b(2) b(3) -d(2) d(3) -n(2) n(3) z(3)"},
	})
	checkCalls(t, "reach(X) :- start(X). reach(Y) :- reach(X), e(X,Y), !shut(Y). shut(X) :- wall(X), !door(X). lone(X) :- v(X), !reach(X). start(a). e(a,b). e(b,c). e(c,a). wall(b). v(b). v(c).", []applied{
		{"door(b)", "door(b) -lone(b) -lone(c) reach(b) reach(c) -shut(b)"},
		{"-start(a) start(c)", "-start(a) start(c)"},
		{"-door(b)", "-door(b) lone(b) -reach(b) shut(b)"},
		{"-wall(b) -start(c)", "lone(c) -reach(a) -reach(c) -shut(b) -start(c) -wall(b)"},
		{"start(b) wall(a)", "-lone(b) -lone(c) reach(b) reach(c) shut(a) start(b) wall(a)"},
	})
	checkCalls(t, "p(X) :- q(X), !r(X). p(X) :- p(X), !s(X). r(X) :- t(X). q(a). q(b).", []applied{
		{"t(a)", "-p(a) r(a) t(a)"},
		{"s(b)", "s(b)"},
		{"t(b) -t(a)", "p(a) -p(b) -r(a) r(b) -t(a) t(b)"},
	})
}

// numbered lists changes of facts name(from) to name(to).
func numbered(name string, from, to int, gone bool) []api.Change {
	var changes []api.Change
	for i := from; i <= to; i++ {
		changes = append(changes, api.Change{Name: name, Args: []string{strconv.Itoa(i)}, Gone: gone})
	}
	return changes
}

func checkCount(t *testing.T, engine *upshot.Engine, changes []api.Change, want int) {
	t.Helper()
	got, fault, place := engine.Apply(changes...)
	if len(got) != want || fault != api.OK || place != len(changes) {
		t.Errorf("Apply(%s) = %d changes, %d, %d; want %d", toldChanges(changes), len(got), fault, place, want)
	}
}

func TestApplyUpToMaxFacts(t *testing.T) {
	engine := load(t, "q(X) :- p(X). r(a). r(b).")
	checkRefused(t, engine, numbered("p", 1, 23, false), api.ErrFull, 23)
	checkCount(t, engine, numbered("p", 1, 22, false), 44)
	// The 25th, and one of the 24 laid again.
	checkRefused(t, engine, changesOf("p(25)"), api.ErrFull, 1)
	checkRefused(t, engine, changesOf("r(c)"), api.ErrFull, 1)
	checkApply(t, engine, "p(22) r(a) r(b)", "")
	checkRefused(t, engine, changesOf("p(22) r(a) r(b) r(c)"), api.ErrFull, 4)
	// One for one, whichever of them comes first.
	checkApply(t, engine, "p(23) -p(1)", "-p(1) p(23) -q(1) q(23)")
	checkApply(t, engine, "-p(2) r(c)", "-p(2) -q(2) r(c)")
	checkApply(t, engine, "p(24) p(24) p(24) -r(c)", "p(24) q(24) -r(c)")
	// What is not there makes no room; nor does what is laid in the same call.
	checkRefused(t, engine, changesOf("-p(1) p(25)"), api.ErrFull, 2)
	checkRefused(t, engine, changesOf("p(25) -p(25)"), api.ErrFull, 2)
	checkRefused(t, engine, changesOf("-p(3) p(3) p(25)"), api.ErrFull, 3)
	checkRefused(t, engine, changesOf("-p(3) -p(3) p(25) p(26)"), api.ErrFull, 4)
	checkApply(t, engine, "p(3) -p(3)", "")
	// All in place of all, and none.
	checkCount(t, engine, append(append(numbered("p", 30, 53, false), numbered("p", 3, 24, true)...), changesOf("-r(a) -r(b)")...), 2*(24+22)+2)
	checkCount(t, engine, numbered("p", 1, 99, true), 48)
	checkDump(t, engine, "")
	checkRefused(t, engine, numbered("p", 1, 25, false), api.ErrFull, 25)
	checkCount(t, engine, append(numbered("p", 1, 24, false), numbered("p", 1, 24, false)...), 48)
	// Facts of derived names do not count: there are 48 facts now.
	checkApply(t, engine, "-p(7)", "-p(7) -q(7)")
	checkApply(t, engine, "r(z)", "r(z)")
	checkRefused(t, engine, changesOf("r(y)"), api.ErrFull, 1)
}

// Sixteen facts of a program's text count too.
func TestApplyUpToMaxFactsBehindLoad(t *testing.T) {
	var text strings.Builder
	for i := range api.MaxClauses {
		text.WriteString("p(" + strconv.Itoa(i) + ").")
	}
	engine := load(t, text.String())
	checkRefused(t, engine, numbered("p", 16, 24, false), api.ErrFull, 9)
	checkCount(t, engine, numbered("p", 0, 23, false), 8)
	checkRefused(t, engine, numbered("p", 0, 24, false), api.ErrFull, 25)
}
