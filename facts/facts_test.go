package facts

import (
	"cmp"
	"math"
	"math/big"
	"slices"
	"testing"
)

func TestTuples(t *testing.T) {
	for _, constants := range [][]string{{"a"}, {"a", "b"}, {"a", "b", "c"}, {"12345678", "a_______", "zzzzzzzz"}, {"0", "00"}} {
		first := constants[0]
		tuple := NewTuple(constants)
		got := tuple.Constants()
		if !slices.Equal(got, constants) {
			t.Errorf("the constants of the tuple of %v are %v", constants, got)
		}
		got[0] = "z"
		if constants[0] != first || tuple[0] != NewWord(first) {
			t.Error("a list that came out is shared")
		}
		constants[0] = "y"
		if tuple[0] != NewWord(first) {
			t.Error("a list that was handed in is shared")
		}
	}
}

// Words stand in the order of their constants, and give them back.
func TestWords(t *testing.T) {
	constants := []string{"0", "00", "01", "1", "10", "12345678", "9", "9_", "9a", "_", "a", "a0", "a_", "aa", "aaaaaaaa", "aaaaaaab", "ab", "b", "zzzzzzz", "zzzzzzzz"}
	for i, one := range constants {
		if got := NewWord(one).Text(); got != one {
			t.Errorf("the word of %q has the text %q", one, got)
		}
		for k, other := range constants {
			if got := cmp.Compare(NewWord(one), NewWord(other)); got != cmp.Compare(i, k) {
				t.Errorf("the words of %q and %q compare as %d", one, other, got)
			}
		}
	}
}

func TestOrderOfTuples(t *testing.T) {
	relation := Relation{}
	for _, constants := range [][]string{{"b", "a"}, {"a", "b"}, {"ab", "a"}, {"a", "ab"}, {"a", "a"}, {"1", "z"}, {"a_", "a"}} {
		relation[NewTuple(constants)] = struct{}{}
	}
	for _, got := range [][]Tuple{relation.Sorted(), relation.Matching(Tuple{})} {
		var told []string
		for _, tuple := range got {
			told = append(told, tuple[0].Text()+tuple[1].Text())
		}
		if want := []string{"1z", "aa", "aab", "ab", "a_a", "aba", "ba"}; !slices.Equal(told, want) {
			t.Errorf("the order is %v, want %v", told, want)
		}
	}
}

func TestMatching(t *testing.T) {
	relation := Relation{}
	for _, constants := range [][]string{{"a", "a"}, {"a", "b"}, {"b", "a"}, {"ab", "a"}} {
		relation[NewTuple(constants)] = struct{}{}
	}
	for _, c := range []struct {
		pattern Tuple
		want    int
	}{
		{Tuple{}, 4},
		{Tuple{NewWord("a")}, 2},
		{Tuple{0, NewWord("a")}, 3},
		{Tuple{NewWord("a"), NewWord("b")}, 1},
		{Tuple{NewWord("b"), NewWord("b")}, 0},
		{Tuple{NewWord("c")}, 0},
	} {
		got := relation.Matching(c.pattern)
		if len(got) != c.want {
			t.Errorf("%d tuples match %v, want %d", len(got), c.pattern, c.want)
		}
		for _, tuple := range got {
			if !tuple.Fits(c.pattern) {
				t.Errorf("the tuple %v is told for the pattern %v", tuple, c.pattern)
			}
		}
	}
}

func TestStore(t *testing.T) {
	store := NewStore([]string{"p", "o"})
	if got := store.Text(); got != "" {
		t.Errorf("the text of an empty store is %q", got)
	}
	for _, c := range []struct {
		name  string
		tuple []string
		isNew bool
	}{
		{"q", []string{"b"}, true},
		{"p", []string{"a", "b"}, true},
		{"q", []string{"a"}, true},
		{"q", []string{"b"}, false},
	} {
		tuple := NewTuple(c.tuple)
		if got := store.Lay(c.name, tuple); got != c.isNew || !store[c.name].Has(tuple) {
			t.Errorf("Lay of %s(%v) tells %t", c.name, c.tuple, got)
		}
	}
	if store["p"].Has(NewTuple([]string{"b", "a"})) || store["none"].Has(NewTuple([]string{"a"})) {
		t.Error("the store has what was never laid")
	}
	if got, want := store.Text(), "p(a,b).\nq(a).\nq(b).\n"; got != want {
		t.Errorf("the store's text is %q, want %q", got, want)
	}
}

func bigOf(c Count) *big.Int {
	high := new(big.Int).SetUint64(c.high)
	return high.Lsh(high, 64).Add(high, new(big.Int).SetUint64(c.low))
}

func TestCounts(t *testing.T) {
	numbers := []uint64{0, 1, 2, 1 << 31, 1<<32 - 1, 1 << 32, math.MaxInt64, 1 << 63, math.MaxUint64}
	for _, a := range numbers {
		for _, b := range numbers {
			sum, product := NewCount(a).Plus(NewCount(b)), NewCount(a).Times(b)
			x, y := new(big.Int).SetUint64(a), new(big.Int).SetUint64(b)
			if want := new(big.Int).Add(x, y); bigOf(sum).Cmp(want) != 0 {
				t.Errorf("%d and %d make %v", a, b, bigOf(sum))
			}
			if want := new(big.Int).Mul(x, y); bigOf(product).Cmp(want) != 0 {
				t.Errorf("%d times %d is %v", a, b, bigOf(product))
			}
		}
	}
	// The greatest that there can be: 16 rules, 12 variables, 127 constants.
	count, want := NewCount(16), big.NewInt(16)
	for range 12 {
		count, want = count.Times(127), want.Mul(want, big.NewInt(127))
	}
	if bigOf(count).Cmp(want) != 0 {
		t.Errorf("the greatest count is %v, want %v", bigOf(count), want)
	}
	if got := count.Plus(count); bigOf(got).Cmp(want.Add(want, want)) != 0 {
		t.Errorf("twice the greatest count is %v, want %v", bigOf(got), want)
	}
}

func TestCountAsInt(t *testing.T) {
	for _, c := range []struct {
		count Count
		want  int
	}{
		{Count{}, 0},
		{NewCount(7), 7},
		{NewCount(math.MaxInt64 - 1), math.MaxInt64 - 1},
		{NewCount(math.MaxInt64), math.MaxInt64},
		{NewCount(math.MaxInt64 + 1), math.MaxInt64},
		{NewCount(math.MaxUint64), math.MaxInt64},
		{NewCount(math.MaxUint64).Plus(NewCount(1)), math.MaxInt64},
		{NewCount(1 << 63).Times(2), math.MaxInt64},
	} {
		if got := c.count.Int(); got != c.want {
			t.Errorf("%v is told as %d, want %d", c.count, got, c.want)
		}
	}
}
