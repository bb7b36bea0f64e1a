package upshot_test

import (
	"fmt"
	"slices"
	"testing"
	"unsafe"

	"upshot/api"
	"upshot/upshot"
)

// A list of the caller's own behind ..., with spare room behind it: it stays as it is, and is not kept.
func TestApplyLeavesItsArguments(t *testing.T) {
	for _, c := range []struct{ list, spare string }{
		{"", "edge(z,z)"},
		{"edge(c,a)", "-edge(a,b) none(a)"},
		{"-edge(a,b) edge(x,y) -edge(a,b) edge(b,a)", "edge(b,a) edge(q,q)"},
		{"edge(b,c) -edge(b,c) -edge(no,no)", "edge(x,y)"},
		{"edge(b,b) edge(a,B)", "edge(x,y)"},
		{"edge(b,b) path(a,b)", ""},
	} {
		engine := load(t, paths)
		all := changesOf(c.list + " " + c.spare)
		for i := range all {
			// The lists in it have spare room too.
			all[i].Args = append(all[i].Args, "spare", "room")[:len(all[i].Args)]
		}
		before := copied(all)
		given := all[:len(changesOf(c.list))]
		other := load(t, paths)
		want, wantFault, _ := other.Apply(changesOf(c.list)...)
		got, fault, _ := engine.Apply(given...)
		if toldChanges(got) != toldChanges(want) || fault != wantFault {
			t.Errorf("Apply of the list %s = %s, %d; want %s, %d", c.list, toldChanges(got), fault, toldChanges(want), wantFault)
		}
		if after := fmt.Sprint(copied(all)); after != fmt.Sprint(before) {
			t.Errorf("the list %s is %s when it has been handed in, was %v", c.list, after, before)
		}
		for i := range all {
			spoil(all[i].Args)
			all[i] = api.Change{Name: "node", Args: []string{"?"}}
		}
		if toldChanges(got) != toldChanges(want) || engine.Dump() != other.Dump() {
			t.Errorf("the answer is %s and Dump is %q when the list that was handed in has been written over", toldChanges(got), engine.Dump())
		}
	}
}

// copied is a copy of changes, with all that stands behind their lists.
func copied(changes []api.Change) []api.Change {
	list := slices.Clone(changes)
	for i, c := range list {
		list[i].Args = slices.Clone(c.Args[:cap(c.Args)])
	}
	return list
}

// spoil writes over a list, and over all that stands behind it.
func spoil(list []string) {
	list = list[:cap(list)]
	for i := range list {
		list[i] = "?"
	}
}

// Lists that come out are the caller's, with all that stands behind them; no two share any.
func TestApplyGivesNewMemory(t *testing.T) {
	const change, want = "edge(c,a)", "edge(c,a) path(a,a) path(b,a) path(b,b) path(c,a) path(c,b) path(c,c)"
	const rules = "edge(a,b). edge(b,c). path(X,Y) :- edge(X,Y). path(X,Z) :- path(X,Y), edge(Y,Z)."
	for chosen := range 7 {
		engine := load(t, rules)
		first, _, _ := engine.Apply(changesOf(change)...)
		second, _, _ := engine.Apply(changesOf("-" + change)...)
		told := toldChanges(second)
		spoil(first[chosen].Args)
		for i, other := range first {
			if i != chosen && slices.Contains(other.Args[:cap(other.Args)], "?") {
				t.Errorf("the lists %d and %d share memory", chosen, i)
			}
		}
		all := first[:cap(first)]
		for i := range all {
			spoil(all[i].Args)
			all[i] = api.Change{Name: "node", Args: []string{"?"}, Gone: true}
		}
		if got := toldChanges(second); got != told {
			t.Errorf("an answer is %s when another one has been written over, was %s", got, told)
		}
		tuples, _ := engine.Query("path", "_", "_")
		if got := toldTuples(tuples); got != "a,b a,c b,c" {
			t.Errorf("Query(path, _, _) is %s when answers of Apply have been written over", got)
		}
		checkApply(t, engine, change, want)
	}
}

// What is handed in may be written over, byte by byte, when the call has answered.
func TestApplyKeepsNothingOfItsArguments(t *testing.T) {
	bytes := []byte("edgeabcdabxy")
	text := func(from, to int) string { return unsafe.String(&bytes[from], to-from) }
	engine := load(t, "e(a). edge(a,b). path(X,Y) :- edge(X,Y).")
	told, fault, _ := engine.Apply(
		api.Change{Name: text(0, 4), Args: []string{text(4, 6), text(6, 8)}},
		api.Change{Name: text(0, 4), Args: []string{text(8, 9), text(9, 10)}, Gone: true},
		api.Change{Name: text(0, 1), Args: []string{text(10, 12)}},
	)
	for i := range bytes {
		bytes[i] = 'z'
	}
	if got, want := toldChanges(told), "e(xy) -edge(a,b) edge(ab,cd) -path(a,b) path(ab,cd)"; got != want || fault != api.OK {
		t.Errorf("the answer is %s, %d when the bytes that were handed in have been written over, want %s", got, fault, want)
	}
	checkDump(t, engine, "e(a) e(xy) edge(ab,cd) path(ab,cd)")
	checkApply(t, engine, "-e(xy) -edge(ab,cd)", "-e(xy) -edge(ab,cd) -path(ab,cd)")
}

// Calls that ask do not change what other calls answer.
func TestAskingChangesNothing(t *testing.T) {
	asked, other := load(t, paths), load(t, paths)
	ask := func(engine *upshot.Engine) {
		for _, name := range []string{"path", "edge", "t", "none", "odd", "absent", "zz"} {
			for arity := range 4 {
				engine.Query(name, slices.Repeat([]string{"_"}, arity)...)
				engine.Support(name, slices.Repeat([]string{"a"}, arity)...)
			}
		}
		engine.Dump()
	}
	for _, call := range []string{"edge(c,a)", "absent(b)", "-edge(a,b) edge(b,b)", "-absent(b) edge(a,b)", "-edge(b,b) -edge(c,a)"} {
		ask(asked)
		want, _, _ := other.Apply(changesOf(call)...)
		checkApply(t, asked, call, toldChanges(want))
		ask(asked)
		checkSame(t, asked, other, "path edge t none odd absent", []string{"a", "b", "c", "x"})
	}
}
