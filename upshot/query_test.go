package upshot_test

import (
	"fmt"
	"slices"
	"strings"
	"testing"

	"upshot/api"
	"upshot/upshot"
)

func checkQuery(t *testing.T, engine *upshot.Engine, name string, args []string, want string, fault api.Errno) {
	t.Helper()
	got, gotFault := engine.Query(name, args...)
	var tuples []string
	for _, tuple := range got {
		tuples = append(tuples, strings.Join(tuple, ","))
	}
	if told := strings.Join(tuples, " "); told != want || gotFault != fault || len(got) != len(strings.Fields(want)) {
		t.Errorf("Query(%q, %q) = %q, %d; want %q, %d", name, args, told, gotFault, want, fault)
	}
	if gotFault != api.OK && got != nil {
		t.Errorf("Query(%q, %q) tells error %d with the list %v", name, args, gotFault, got)
	}
}

const paths = "edge(a,b). edge(b,c). path(X,Y) :- edge(X,Y). path(X,Z) :- path(X,Y), edge(Y,Z). t(X,Y,Z) :- path(X,Y), path(Y,Z). none(X) :- edge(X,X). odd(x,X) :- edge(X,Y), !absent(Y)."

func TestQuery(t *testing.T) {
	engine := load(t, paths)
	for _, c := range []struct{ name, args, want string }{
		{"path", "a _", "a,b a,c"},
		{"path", "_ _", "a,b a,c b,c"},
		{"path", "_ c", "a,c b,c"},
		{"path", "a c", "a,c"},
		{"path", "c a", ""},
		{"path", "_ a", ""},
		{"path", "zz _", ""},
		{"path", "12345678 a_______", ""},
		{"edge", "_ _", "a,b b,c"},
		{"edge", "b _", "b,c"},
		{"edge", "a c", ""},
		{"t", "_ _ _", "a,b,c"},
		{"t", "a _ c", "a,b,c"},
		{"t", "_ c _", ""},
		// Names that stand in the program, and of which there is nothing.
		{"none", "_", ""},
		{"absent", "_", ""},
		{"absent", "a", ""},
		{"odd", "_ _", "x,a x,b"},
		{"odd", "x b", "x,b"},
	} {
		for range 2 {
			checkQuery(t, engine, c.name, strings.Fields(c.args), c.want, api.OK)
		}
	}
}

func TestQueryOrder(t *testing.T) {
	engine := load(t, "p(b). p(a). p(10). p(9). p(1). p(ab). p(a_). p(a0). p(01). q(X,Y) :- e(Y,X). e(a,b). e(a0,c). e(a,bb). e(ab,a).")
	checkQuery(t, engine, "p", []string{"_"}, "01 1 10 9 a a0 a_ ab b", api.OK)
	checkQuery(t, engine, "q", []string{"_", "_"}, "a,ab b,a bb,a c,a0", api.OK)
	checkQuery(t, engine, "q", []string{"_", "a"}, "b,a bb,a", api.OK)
}

func TestQueryErrors(t *testing.T) {
	engine := load(t, paths)
	for _, c := range []struct {
		name  string
		args  []string
		fault api.Errno
	}{
		// A name that does not stand in the program: whatever else is wrong.
		{"p", []string{"_", "_"}, api.ErrName},
		{"", nil, api.ErrName},
		{"X", []string{"_"}, api.ErrName},
		{"a", []string{"_"}, api.ErrName},
		{"Edge", []string{"_", "_"}, api.ErrName},
		{"edge ", []string{"_", "_"}, api.ErrName},
		{"_", []string{"_"}, api.ErrName},
		{"\x00", []string{"?"}, api.ErrName},
		{strings.Repeat("edge", 1000), nil, api.ErrName},
		// Too few or too many args: whatever stands in them.
		{"edge", nil, api.ErrArity},
		{"edge", []string{}, api.ErrArity},
		{"edge", []string{"_"}, api.ErrArity},
		{"edge", []string{"a", "b", "c"}, api.ErrArity},
		{"edge", []string{"?"}, api.ErrArity},
		{"none", []string{"?", "a"}, api.ErrArity},
		{"absent", nil, api.ErrArity},
		{"path", make([]string, 1000), api.ErrArity},
		{"t", []string{"a", "b", "c", "d"}, api.ErrArity},
		// What is no constant.
		{"edge", []string{"", "a"}, api.ErrSyntax},
		{"edge", []string{"a", ""}, api.ErrSyntax},
		{"edge", []string{"A", "a"}, api.ErrSyntax},
		{"edge", []string{"_", "X"}, api.ErrSyntax},
		{"edge", []string{"_", "aB"}, api.ErrSyntax},
		{"edge", []string{"__", "_"}, api.ErrSyntax},
		{"edge", []string{"_a", "_"}, api.ErrSyntax},
		{"edge", []string{"_", "_1"}, api.ErrSyntax},
		{"edge", []string{"_", " _"}, api.ErrSyntax},
		{"edge", []string{"a b", "b"}, api.ErrSyntax},
		{"edge", []string{"a", "b "}, api.ErrSyntax},
		{"edge", []string{"a", "b\n"}, api.ErrSyntax},
		{"edge", []string{"a", "b\x00"}, api.ErrSyntax},
		{"edge", []string{"\x00", "b"}, api.ErrSyntax},
		{"edge", []string{"a%", "b"}, api.ErrSyntax},
		{"edge", []string{"a,b", "b"}, api.ErrSyntax},
		{"edge", []string{"é", "_"}, api.ErrSyntax},
		{"edge", []string{"a\xff", "_"}, api.ErrSyntax},
		{"edge", []string{"a", "123456789"}, api.ErrSyntax},
		{"edge", []string{strings.Repeat("a", 1<<20), "a"}, api.ErrSyntax},
		{"absent", []string{"?"}, api.ErrSyntax},
		{"t", []string{"_", "_", "-"}, api.ErrSyntax},
	} {
		checkQuery(t, engine, c.name, c.args, "", c.fault)
	}
	checkQuery(t, engine, "path", []string{"_", "_"}, "a,b a,c b,c", api.OK)
	checkQuery(t, load(t, ""), "p", []string{"_"}, "", api.ErrName)
}

// Each byte, as a constant of its own, ahead in one and behind in one.
func TestQueryAtEachByte(t *testing.T) {
	engine := load(t, "p(a). p(1).")
	for b := range 256 {
		sign := string([]byte{byte(b)})
		small := 'a' <= b && b <= 'z' || '0' <= b && b <= '9'
		for _, c := range []struct {
			arg string
			ok  bool
		}{{sign, small || b == '_'}, {sign + "z", small}, {"z" + sign, small || b == '_'}} {
			fault, want := api.ErrSyntax, ""
			if c.ok {
				fault = api.OK
			}
			switch c.arg {
			case "a", "1":
				want = c.arg
			case "_":
				want = "1 a"
			}
			checkQuery(t, engine, "p", []string{c.arg}, want, fault)
		}
	}
}

// Lists that are handed in stay as they are, and are not kept.
func TestQueryAndSupportLeaveTheirArguments(t *testing.T) {
	engine := load(t, paths)
	for _, list := range [][]string{{"a", "_", "spare", "?"}, {"a", "b", "spare", "?"}, {"a", "?", "spare", "?"}} {
		before := slices.Clone(list)
		found, _ := engine.Query("path", list[:2]...)
		told := fmt.Sprint(found)
		engine.Support("path", list[:2]...)
		if !slices.Equal(list, before) {
			t.Errorf("the list %q is %q when it has been handed in", before, list)
		}
		for i := range list {
			list[i] = "z"
		}
		if got := fmt.Sprint(found); got != told {
			t.Errorf("the answer %s is %s when the list that was handed in has been written over", told, got)
		}
		if got, _ := engine.Query("path", before[:2]...); fmt.Sprint(got) != told {
			t.Errorf("Query(path, %q) is %v and not any more %s", before[:2], got, told)
		}
	}
}

// Lists that come out are the caller's, with all that stands behind them.
func TestQueryGivesNewMemory(t *testing.T) {
	engine := load(t, paths)
	want := "[[a b] [a c] [b c]]"
	for chosen := range 3 {
		first, _ := engine.Query("path", "_", "_")
		second, _ := engine.Query("path", "_", "_")
		row := first[chosen][:cap(first[chosen])]
		for i := range row {
			row[i] = "?"
		}
		for i, other := range first {
			if i != chosen && slices.Contains(other[:cap(other)], "?") {
				t.Errorf("the lists %d and %d share memory", chosen, i)
			}
		}
		all := first[:cap(first)]
		for i := range all {
			all[i] = nil
		}
		if got := fmt.Sprint(second); got != want {
			t.Errorf("an answer is %s when another one has been written over, want %s", got, want)
		}
		if third, _ := engine.Query("path", "_", "_"); fmt.Sprint(third) != want {
			t.Errorf("the next answer is %v when one has been written over, want %s", third, want)
		}
	}
	if got, want := engine.Dump(), load(t, paths).Dump(); got != want {
		t.Errorf("Dump is %q when answers have been written over, want %q", got, want)
	}
}
