package facts

import (
	"slices"
	"testing"
)

func TestTuples(t *testing.T) {
	for _, constants := range [][]string{{"a"}, {"a", "b"}, {"a", "b", "c"}} {
		tuple := NewTuple(constants)
		got := tuple.Constants()
		if !slices.Equal(got, constants) {
			t.Errorf("the constants of the tuple of %v are %v", constants, got)
		}
		got[0] = "z"
		if constants[0] != "a" || tuple[0] != "a" {
			t.Error("a list that came out is shared")
		}
		constants[0] = "y"
		if tuple[0] != "a" {
			t.Error("a list that was handed in is shared")
		}
	}
}

func TestOrderOfTuples(t *testing.T) {
	relation := Relation{}
	for _, constants := range [][]string{{"b", "a"}, {"a", "b"}, {"ab", "a"}, {"a", "ab"}, {"a", "a"}, {"1", "z"}, {"a_", "a"}} {
		relation[NewTuple(constants)] = struct{}{}
	}
	var got []string
	for _, tuple := range relation.Sorted() {
		got = append(got, tuple[0]+tuple[1])
	}
	if want := []string{"1z", "aa", "aab", "ab", "a_a", "aba", "ba"}; !slices.Equal(got, want) {
		t.Errorf("the order is %v, want %v", got, want)
	}
}

func TestStore(t *testing.T) {
	store := Store{}
	if got := store.Text(); got != "" {
		t.Errorf("the text of an empty store is %q", got)
	}
	store.Lay("q", NewTuple([]string{"b"}))
	store.Lay("p", NewTuple([]string{"a", "b"}))
	store.Lay("q", NewTuple([]string{"a"}))
	store.Lay("q", NewTuple([]string{"b"}))
	if got, want := store.Text(), "p(a,b).\nq(a).\nq(b).\n"; got != want {
		t.Errorf("the store's text is %q, want %q", got, want)
	}
}
