package upshot_test

import (
	"strings"
	"testing"

	"upshot/api"
	"upshot/upshot"
)

// checkRefused sees that Apply tells an error, and leaves all as it was.
func checkRefused(t *testing.T, engine *upshot.Engine, changes []api.Change, fault api.Errno, place int) {
	t.Helper()
	before := engine.Dump()
	got, gotFault, gotPlace := engine.Apply(changes...)
	if len(got) > 0 || gotFault != fault || gotPlace != place {
		t.Errorf("Apply(%s) = %s, %d, %d; want %d, %d", toldChanges(changes), toldChanges(got), gotFault, gotPlace, fault, place)
	}
	if after := engine.Dump(); after != before {
		t.Errorf("Dump is %q behind an error, was %q", after, before)
	}
}

const roads = "edge(a,b). edge(b,c). node(a). path(X,Y) :- edge(X,Y), !shut(Y). path(X,Z) :- path(X,Y), edge(Y,Z). far(X) :- node(X), !path(X,X). tri(X) :- t(X,Y,Z)."

func TestApplyErrors(t *testing.T) {
	engine := load(t, roads)
	for _, c := range []struct {
		name  string
		args  []string
		fault api.Errno
	}{
		// A name that does not stand in the program: whatever else is wrong.
		{"", nil, api.ErrName},
		{"e", []string{"a", "b"}, api.ErrName},
		{"a", []string{"a"}, api.ErrName},
		{"X", []string{"a"}, api.ErrName},
		{"Edge", []string{"a", "b"}, api.ErrName},
		{"edge ", []string{"a", "b"}, api.ErrName},
		{"edge\x00", []string{"a", "b"}, api.ErrName},
		{"_", []string{"?"}, api.ErrName},
		{"\xff", []string{"?", ""}, api.ErrName},
		{strings.Repeat("edge", 1000), nil, api.ErrName},
		// A derived name: whatever stands behind it.
		{"path", []string{"a", "b"}, api.ErrDerived},
		{"path", []string{"z", "z"}, api.ErrDerived},
		{"path", nil, api.ErrDerived},
		{"path", []string{"?"}, api.ErrDerived},
		{"far", []string{"a"}, api.ErrDerived},
		{"tri", []string{"a", "b", "c", "d"}, api.ErrDerived},
		// Another number of terms: whatever stands in them.
		{"edge", nil, api.ErrArity},
		{"edge", []string{}, api.ErrArity},
		{"edge", []string{"a"}, api.ErrArity},
		{"edge", []string{"a", "b", "c"}, api.ErrArity},
		{"edge", []string{"?"}, api.ErrArity},
		{"shut", []string{"a", ""}, api.ErrArity},
		{"t", []string{"a", "b"}, api.ErrArity},
		{"t", []string{"a", "b", "c", "d"}, api.ErrArity},
		{"node", make([]string, 1000), api.ErrArity},
		// What is no constant, in any place.
		{"edge", []string{"", "b"}, api.ErrSyntax},
		{"edge", []string{"a", ""}, api.ErrSyntax},
		{"edge", []string{"A", "b"}, api.ErrSyntax},
		{"edge", []string{"a", "X"}, api.ErrSyntax},
		{"edge", []string{"a", "bC"}, api.ErrSyntax},
		{"edge", []string{"_", "b"}, api.ErrSyntax},
		{"edge", []string{"a", "_"}, api.ErrSyntax},
		{"edge", []string{"_a", "b"}, api.ErrSyntax},
		{"edge", []string{"a,b", "c"}, api.ErrSyntax},
		{"edge", []string{"a", "b "}, api.ErrSyntax},
		{"edge", []string{" a", "b"}, api.ErrSyntax},
		{"edge", []string{"a", "b\n"}, api.ErrSyntax},
		{"edge", []string{"a", "b\x00"}, api.ErrSyntax},
		{"edge", []string{"\x00", "b"}, api.ErrSyntax},
		{"edge", []string{"a", "b."}, api.ErrSyntax},
		{"edge", []string{"a%", "b"}, api.ErrSyntax},
		{"edge", []string{"é", "b"}, api.ErrSyntax},
		{"edge", []string{"a", "b\xff"}, api.ErrSyntax},
		{"edge", []string{"a", "123456789"}, api.ErrSyntax},
		{"edge", []string{"abcdefghi", "b"}, api.ErrSyntax},
		{"edge", []string{"a", strings.Repeat("b", 1<<20)}, api.ErrSyntax},
		{"shut", []string{"-"}, api.ErrSyntax},
		{"t", []string{"a", "b", "C"}, api.ErrSyntax},
	} {
		for _, gone := range []bool{false, true} {
			bad := api.Change{Name: c.name, Args: c.args, Gone: gone}
			checkRefused(t, engine, []api.Change{bad}, c.fault, 0)
			// Right changes ahead of it and behind it are not made, and do not hide it.
			checkRefused(t, engine, []api.Change{changeOf("-edge(a,b)"), changeOf("shut(c)"), changeOf("node(z)"), bad}, c.fault, 3)
			checkRefused(t, engine, []api.Change{changeOf("-edge(b,c)"), bad, changeOf("-node(a)"), changeOf("t(a,b,c)")}, c.fault, 1)
		}
	}
	checkApply(t, engine, "edge(12345678,a_______) -node(a)", "edge(12345678,a_______) -far(a) -node(a) path(12345678,a_______)")
}

// The first change with an error counts, whichever error it has; ErrFull comes behind all others.
func TestApplyOrderOfErrors(t *testing.T) {
	engine := load(t, roads)
	bad := []struct {
		change api.Change
		fault  api.Errno
	}{
		{changeOf("none(a)"), api.ErrName},
		{changeOf("-path(a,b)"), api.ErrDerived},
		{changeOf("edge(a,b,c)"), api.ErrArity},
		{changeOf("-edge(a,B)"), api.ErrSyntax},
	}
	many := numbered("node", 1, 30, false)
	for _, first := range bad {
		for _, second := range bad {
			checkRefused(t, engine, []api.Change{changeOf("-edge(a,b)"), first.change, second.change}, first.fault, 1)
		}
		for _, place := range []int{0, 1, 24, 29, 30} {
			mixed := append(append(append([]api.Change{}, many[:place]...), first.change), many[place:]...)
			checkRefused(t, engine, mixed, first.fault, place)
		}
	}
	checkRefused(t, engine, many, api.ErrFull, 30)
}

// Each byte, as a constant of its own, ahead in one and behind in one.
func TestApplyAtEachByte(t *testing.T) {
	engine := load(t, "p(a) :- q(X). n(a).")
	for b := range 256 {
		sign := string([]byte{byte(b)})
		small := 'a' <= b && b <= 'z' || '0' <= b && b <= '9'
		for _, c := range []struct {
			arg string
			ok  bool
		}{{sign, small}, {sign + "z", small}, {"z" + sign, small || b == '_'}} {
			comes := api.Change{Name: "q", Args: []string{c.arg}}
			goes := api.Change{Name: "q", Args: []string{c.arg}, Gone: true}
			if !c.ok {
				checkRefused(t, engine, []api.Change{comes}, api.ErrSyntax, 0)
				checkRefused(t, engine, []api.Change{changeOf("-n(a)"), goes}, api.ErrSyntax, 1)
				continue
			}
			checkApply(t, engine, "q("+c.arg+")", "p(a) q("+c.arg+")")
			checkApply(t, engine, "-q("+c.arg+")", "-p(a) -q("+c.arg+")")
		}
	}
}

// An engine that has seen errors answers ever after as one that has not.
func TestErrorsLeaveNoTrace(t *testing.T) {
	spoiled, other := load(t, roads), load(t, roads)
	calls := []string{"edge(c,a)", "shut(b)", "-edge(a,b) node(b)", "t(1,2,3) t(1,3,2)", "-shut(b) edge(a,b)", "-t(1,2,3)", "-node(a) -edge(c,a)", "-t(1,3,2)"}
	for i, call := range calls {
		for _, wrong := range []string{calls[(i+1)%len(calls)] + " none(a)", call + " path(a,b)", "-edge(a,b) -node(a) edge(a)", "edge(b,a) shut(c) edge(a,B)"} {
			if _, fault, _ := spoiled.Apply(changesOf(wrong)...); fault == api.OK {
				t.Errorf("Apply(%s) tells no error", wrong)
			}
		}
		if _, fault, _ := spoiled.Apply(append(changesOf(call), numbered("node", 1, 30, false)...)...); fault != api.ErrFull {
			t.Errorf("Apply of 30 facts tells %d, want ErrFull", fault)
		}
		spoiled.Query("edge", "?", "b")
		spoiled.Support("path", "a")
		want, _, _ := other.Apply(changesOf(call)...)
		checkApply(t, spoiled, call, toldChanges(want))
		checkSame(t, spoiled, other, "path edge far tri", []string{"a", "b", "c", "1"})
	}
}

// checkSame sees that two engines of one program tell the same of some names.
func checkSame(t *testing.T, engine, other *upshot.Engine, names string, constants []string) {
	t.Helper()
	if got, want := engine.Dump(), other.Dump(); got != want {
		t.Fatalf("Dump is %q, of another engine with the same base facts %q", got, want)
	}
	for _, name := range strings.Fields(names) {
		arity := 1
		if _, fault := other.Query(name, "_"); fault == api.ErrArity {
			arity = 2
		}
		if _, fault := other.Query(name, "_", "_", "_"); fault == api.OK {
			arity = 3
		}
		eachTuple(arity, append([]string{"_"}, constants...), func(args []string) {
			got, fault := engine.Query(name, args...)
			want, otherFault := other.Query(name, args...)
			if toldTuples(got) != toldTuples(want) || fault != otherFault {
				t.Fatalf("Query(%q, %q) = %v, %d, of another engine with the same base facts %v, %d", name, args, got, fault, want, otherFault)
			}
			ways, fault := engine.Support(name, args...)
			otherWays, otherFault := other.Support(name, args...)
			if ways != otherWays || fault != otherFault {
				t.Fatalf("Support(%q, %q) = %d, %d, of another engine with the same base facts %d, %d", name, args, ways, fault, otherWays, otherFault)
			}
		})
	}
}

func toldTuples(tuples [][]string) string {
	var texts []string
	for _, tuple := range tuples {
		texts = append(texts, strings.Join(tuple, ","))
	}
	return strings.Join(texts, " ")
}
