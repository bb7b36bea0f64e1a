package upshot_test

import (
	"math"
	"strings"
	"testing"

	"upshot/api"
	"upshot/upshot"
)

func checkSupport(t *testing.T, engine *upshot.Engine, name string, args []string, want int, fault api.Errno) {
	t.Helper()
	if got, gotFault := engine.Support(name, args...); got != want || gotFault != fault {
		t.Errorf("Support(%q, %q) = %d, %d; want %d, %d", name, args, got, gotFault, want, fault)
	}
}

func TestSupport(t *testing.T) {
	for _, c := range []struct {
		text, fact string
		want       int
	}{
		{"s(X) :- e(X,Y). e(a,b). e(a,c).", "s a", 2},
		{"s(X) :- e(X,Y). e(a,b). e(a,c).", "s b", 0},
		{"s(X) :- e(X,Y). e(a,b). e(a,c).", "s zz", 0},
		{"q(X) :- n(X), !r(X). r(X) :- m(X). n(1). n(2). m(2).", "q 1", 1},
		{"q(X) :- n(X), !r(X). r(X) :- m(X). n(1). n(2). m(2).", "q 2", 0},
		{"q(X) :- n(X), !r(X). r(X) :- m(X). n(1). n(2). m(2).", "r 2", 1},
		// Facts that stand twice are there once; rules that stand twice are two.
		{"s(X) :- e(X,Y). e(a,b). e(a,b).", "s a", 1},
		{"s(X) :- e(X,Y). e(a,b). s(X) :- e(X,Y).", "s a", 2},
		{"s(X) :- e(X,Y). s(A) :- e(A,B). s(a) :- e(a,b). s(a) :- e(a,c). e(a,b).", "s a", 3},
		{"p(X) :- q(X). p(X) :- q(X). p(X) :- p(X). p(X) :- p(X). q(a).", "p a", 4},
		// Constants are for all variables of a rule, also for those that stand once.
		{"s(a) :- e(X,Y), e(Z,W). e(1,2). e(3,4). e(1,5).", "s a", 9},
		{"s(X) :- e(X,Y), e(X,Z). e(a,b). e(a,c). e(b,a).", "s a", 4},
		{"s(X) :- e(X,Y), e(Y,X). e(a,b). e(b,a). e(a,a).", "s a", 2},
		{"s(X) :- e(X,X), e(X,Y). e(a,a). e(a,b). e(b,a).", "s a", 2},
		{"s(X,X) :- e(X,Y). e(a,b). e(a,c).", "s a a", 2},
		{"s(X,X) :- e(X,Y). e(a,b). e(a,c).", "s a b", 0},
		{"s(b,X) :- e(X,Y). s(X,b) :- e(X,Y). e(b,1). e(b,2). e(c,3).", "s b b", 4},
		{"s(b,X) :- e(X,Y). s(X,b) :- e(X,Y). e(b,1). e(b,2). e(c,3).", "s c b", 1},
		{"s(a) :- e(X), e(Y), !f(X,Y). e(1). e(2). e(3). f(1,2). f(3,3).", "s a", 7},
		{"s(X) :- e(X,Y), e(Y,Z), !e(Z,X). e(a,b). e(b,c). e(b,d). e(b,a). e(d,a).", "s a", 2},
		// Rules without variables.
		{"p(a) :- !q(b). p(a) :- !q(c), !q(b). p(a) :- q(d). p(a) :- q(e). q(e).", "p a", 3},
		{"p(a) :- q(e), q(e), q(e). q(e).", "p a", 1},
		// The tuples that there are in the end count: what stands above itself can hang on itself.
		{"p(X) :- q(X). p(X) :- p(X). q(a).", "p a", 2},
		{"p(X) :- p(X). q(a).", "p a", 0},
		{"p(X,Y) :- e(X,Y). p(X,Z) :- p(X,Y), p(Y,Z). e(a,b). e(b,c). e(c,d).", "p a d", 2},
		{"p(X,Y) :- e(X,Y). p(X,Z) :- p(X,Y), p(Y,Z). e(a,b). e(b,a).", "p a a", 2},
		{"p(X,Y) :- e(X,Y). p(X,Z) :- p(X,Y), p(Y,Z). e(a,b). e(b,a).", "p a b", 3},
		{"p(X,Y) :- e(X,Y). p(X,Z) :- p(X,Y), p(Y,Z). e(a,b). e(b,a).", "p b c", 0},
		{"p(X) :- r(X). r(X) :- p(X). r(X) :- q(X). p(X) :- r(X), r(Y). q(a). q(b).", "p a", 3},
		{"p(X) :- r(X). r(X) :- p(X). r(X) :- q(X). p(X) :- r(X), r(Y). q(a). q(b).", "r b", 2},
		{"p(b) :- q(X). p(Y) :- p(X), e(X,Y), !z(Y). q(1). q(2). e(b,b). e(b,c). e(c,b). e(c,d). z(d).", "p b", 4},
		{"p(b) :- q(X). p(Y) :- p(X), e(X,Y), !z(Y). q(1). q(2). e(b,b). e(b,c). e(c,b). e(c,d). z(d).", "p d", 0},
	} {
		engine := load(t, c.text)
		fact := strings.Fields(c.fact)
		for range 2 {
			checkSupport(t, engine, fact[0], fact[1:], c.want, api.OK)
		}
	}
}

func TestSupportErrors(t *testing.T) {
	engine := load(t, paths)
	for _, c := range []struct {
		name  string
		args  []string
		fault api.Errno
	}{
		{"p", []string{"a"}, api.ErrName},
		{"", nil, api.ErrName},
		{"X", []string{"_"}, api.ErrName},
		{"\xff", []string{"a", "b"}, api.ErrName},
		{"pathpath", []string{"a", "b"}, api.ErrName},
		// A base name: whatever stands behind it.
		{"edge", []string{"a", "b"}, api.ErrDerived},
		{"edge", nil, api.ErrDerived},
		{"edge", []string{"?", "b", "c", "d"}, api.ErrDerived},
		{"absent", []string{"a"}, api.ErrDerived},
		{"absent", []string{"X"}, api.ErrDerived},
		{"path", nil, api.ErrArity},
		{"path", []string{"a"}, api.ErrArity},
		{"path", []string{"?"}, api.ErrArity},
		{"path", []string{"a", "b", "c"}, api.ErrArity},
		{"none", []string{"_", "_"}, api.ErrArity},
		{"t", make([]string, 1000), api.ErrArity},
		// There is no _ here.
		{"path", []string{"_", "b"}, api.ErrSyntax},
		{"path", []string{"a", "_"}, api.ErrSyntax},
		{"none", []string{"_"}, api.ErrSyntax},
		{"path", []string{"", "b"}, api.ErrSyntax},
		{"path", []string{"a", ""}, api.ErrSyntax},
		{"path", []string{"X", "b"}, api.ErrSyntax},
		{"path", []string{"a", "bC"}, api.ErrSyntax},
		{"path", []string{"a", "b."}, api.ErrSyntax},
		{"path", []string{"a\x00", "b"}, api.ErrSyntax},
		{"path", []string{"a", "b\x00\x00\x00\x00\x00\x00\x00"}, api.ErrSyntax},
		{"path", []string{"123456789", "b"}, api.ErrSyntax},
		{"path", []string{"a", strings.Repeat("b", 1<<20)}, api.ErrSyntax},
		{"t", []string{"a", "b", "é"}, api.ErrSyntax},
	} {
		checkSupport(t, engine, c.name, c.args, 0, c.fault)
	}
	checkSupport(t, engine, "path", []string{"a", "b"}, 1, api.OK)
	checkSupport(t, engine, "path", []string{"12345678", "a_______"}, 0, api.OK)
}

// letters lists so many constants.
func letters(count int) []string {
	var list []string
	for i := range count {
		list = append(list, string(rune('a'+i%26))+strings.Repeat("z", i/26))
	}
	return list
}

// full is a program in which p has all tuples of so many constants (a multiple of 3).
func full(constants int) string {
	var text strings.Builder
	list := letters(constants)
	for i := 0; i < constants; i += 3 {
		text.WriteString("d(" + strings.Join(list[i:i+3], ",") + ").")
	}
	return text.String() + "p(X,Y,Z):-d(X,Y,Z).p(Y,Z,A):-p(X,Y,Z),p(A,B,C)."
}

func power(base, exponent int) int {
	product := 1
	for range exponent {
		product *= base
	}
	return product
}

// Far more ways than could be gone through one by one, up to those above 2^63 - 1.
func TestGreatSupports(t *testing.T) {
	four := "q(a):-p(A,B,C),p(D,E,F),p(G,H,I),p(J,K,L)."
	for _, c := range []struct {
		constants int
		rules     string
		args      string
		want      int
	}{
		{36, four, "a", power(36, 12)},
		{39, four, "a", math.MaxInt64}, // 39^12 is above 2^63 - 1, and below 2^64.
		{33, four + four, "a", 2 * power(33, 12)},
		{36, four + strings.Replace(four, "p(A,B,C)", "p(A,b,C)", 1), "a", power(36, 12) + power(36, 11)},
		{36, four + four, "a", math.MaxInt64},
		{36, four + four, "b", 0},
		{39, "q(A,D,G):-p(A,B,C),p(D,E,F),p(G,H,I),p(J,K,L).", "a b c", power(39, 9)},
		{39, "q(A,B):-p(A,B,C),p(C,D,E),p(E,F,G),p(G,H,A).", "a b", power(39, 6)},
		{39, "q(A):-p(A,B,C),p(D,E,F),p(G,H,I),!d(A,D,G).", "c", (power(39, 2)) * power(39, 6)},
		{39, "q(A):-p(A,B,C),p(D,E,F),p(G,H,I),!d(A,D,G).", "a", (power(39, 2) - 1) * power(39, 6)},
	} {
		engine := load(t, full(c.constants)+c.rules)
		checkSupport(t, engine, "q", strings.Fields(c.args), c.want, api.OK)
		checkSupport(t, engine, "p", []string{"c", "b", "a"}, power(c.constants, 3), api.OK)
		checkSupport(t, engine, "p", []string{"a", "b", "c"}, power(c.constants, 3)+1, api.OK)
		if tuples, fault := engine.Query("p", "_", "_", "_"); len(tuples) != power(c.constants, 3) || fault != api.OK {
			t.Errorf("p has %d tuples of %d constants", len(tuples), c.constants)
		}
	}
}

// triples lists changes of d that bring so many constants into what full makes.
func triples(constants int, gone bool) []api.Change {
	var changes []api.Change
	list := letters(constants)
	for i := 0; i < constants; i += 3 {
		changes = append(changes, api.Change{Name: "d", Args: list[i : i+3], Gone: gone})
	}
	return changes
}

// Supports above 2^63 - 1 come and go: what is kept of them is not what is told.
func TestGreatSupportsComeAndGo(t *testing.T) {
	engine := load(t, full(0)+"q(a):-p(A,B,C),p(D,E,F),p(G,H,I),p(J,K,L).q(X):-n(X).r(a):-p(A,B,C),p(D,E,F),p(G,H,I),!d(A,D,G).")
	r := func(n int) int { return power(n, 9) - n/3*power(n, 6) }
	for _, c := range []struct {
		changes []api.Change
		told, q int
		r       int
	}{
		{triples(36, false), 12 + power(36, 3) + 2, power(36, 12), r(36)},
		{triples(39, false), 1 + power(39, 3) - power(36, 3), math.MaxInt64, r(39)},
		{changesOf("n(a) n(b)"), 3, math.MaxInt64, r(39)},
		{triples(39, false)[12:], 0, math.MaxInt64, r(39)},
		{append(triples(39, true), triples(33, false)...), 2 + power(39, 3) - power(33, 3), power(33, 12) + 1, r(33)},
		{changesOf("-n(a)"), 1, power(33, 12), r(33)},
		{triples(39, false), 2 + power(39, 3) - power(33, 3), math.MaxInt64, r(39)},
		{append(changesOf("d(a,c,b) n(a)"), changeOf("-d(a,b,c)")), 3, math.MaxInt64, r(39)},
		{append(triples(39, true), changeOf("-d(a,c,b)")), 13 + power(39, 3) + 1, 1, 0},
		{changesOf("-n(a) -n(b)"), 4, 0, 0},
	} {
		checkCount(t, engine, c.changes, c.told)
		checkSupport(t, engine, "q", []string{"a"}, c.q, api.OK)
		checkSupport(t, engine, "r", []string{"a"}, c.r, api.OK)
	}
	checkDump(t, engine, "")
}
