package facts

import (
	"maps"
	"math"
	"slices"
	"strings"
	"testing"
)

// storeOf makes a store of facts like "p,a,b q,c".
func storeOf(texts string) Store {
	s := Store{}
	for _, text := range strings.Fields(texts) {
		words := strings.Split(text, ",")
		s.Lay(words[0], NewTuple(words[1:]))
	}
	return s
}

// changesOf reads changes like "p,a,b -q,c".
func changesOf(texts string) []Change {
	var changes []Change
	for _, text := range strings.Fields(texts) {
		words := strings.Split(strings.TrimPrefix(text, "-"), ",")
		changes = append(changes, Change{Name: words[0], Tuple: NewTuple(words[1:]), Gone: text[0] == '-'})
	}
	return changes
}

// told writes changes as they come.
func told(changes []Change) string {
	var texts []string
	for _, c := range changes {
		text := c.Name + "," + strings.Join(c.Tuple.Constants(), ",")
		if c.Gone {
			text = "-" + text
		}
		texts = append(texts, text)
	}
	return strings.Join(texts, " ")
}

func TestOrderOfChanges(t *testing.T) {
	want := "p,a p,b -p1,a p_,a -pa,a,b pa,a,c -pa,ab,a -q,0 q,00 q,1 q,a"
	changes := changesOf(want)
	slices.Reverse(changes)
	slices.SortFunc(changes, Change.Compare)
	if got := told(changes); got != want {
		t.Errorf("the order is %q, want %q", got, want)
	}
	// Whether a fact has come or is gone is of no matter to its place.
	if changesOf("p,a")[0].Compare(changesOf("-p,a")[0]) != 0 {
		t.Error("a fact that has come is not in the place of one that is gone")
	}
}

func TestShift(t *testing.T) {
	for _, c := range []struct{ changes, want, back string }{
		{"", "", ""},
		{"p,a", "p,a", "-p,a"},
		{"-p,a", "-p,a", "p,a"},
		{"p,a p,a", "p,a", "-p,a"},
		{"-q,b p,a -p,b p,c", "p,a -p,b p,c -q,b", "-p,a p,b -p,c q,b"},
		// What is on both sides has not changed, whichever comes first.
		{"p,a -p,a", "", ""},
		{"-p,a p,a q,a", "q,a", "-q,a"},
		{"p,a -q,a", "p,a -q,a", "-p,a q,a"},
	} {
		shift := NewShift(changesOf(c.changes))
		got, back := shift.Changes(), shift.Reversed().Changes()
		slices.SortFunc(got, Change.Compare)
		slices.SortFunc(back, Change.Compare)
		if told(got) != c.want || told(back) != c.back {
			t.Errorf("the changes %q are in all %q, and back %q; want %q, %q", c.changes, told(got), told(back), c.want, c.back)
		}
	}
}

func TestMakeAndTakeAll(t *testing.T) {
	s := storeOf("p,a p,b q,a,b r,z")
	s.Make(changesOf("-p,a p,c -p,x -q,a,b -none,a q,b,a p,b"))
	if got, want := s.Text(), "p(b).\np(c).\nq(b,a).\nr(z).\n"; got != want {
		t.Errorf("the changes make %q, want %q", got, want)
	}
	other := storeOf("p,b r,z none,a new,b")
	s.TakeAll(other)
	if got, want := s.Text(), "p(c).\nq(b,a).\n"; got != want {
		t.Errorf("there is %q left, want %q", got, want)
	}
	s.LayAll(other)
	s.LayAll(storeOf("p,b p,c"))
	if got, want := s.Text(), "new(b).\nnone(a).\np(b).\np(c).\nq(b,a).\nr(z).\n"; got != want {
		t.Errorf("there is %q, want %q", got, want)
	}
	// What is laid into one store is not laid into the other one.
	s.Lay("new", NewTuple([]string{"c"}))
	if got, want := other.Text(), "new(b).\nnone(a).\np(b).\nr(z).\n"; got != want {
		t.Errorf("the store that was laid is %q, want %q", got, want)
	}
	if !s.Has("p", NewTuple([]string{"b"})) || s.Has("p", NewTuple([]string{"a"})) || s.Has("z", NewTuple([]string{"b"})) {
		t.Error("the store has not what it has, or has what it has not")
	}
}

// A scene shows each relation as it was ahead of a shift, and as it is.
func TestScenes(t *testing.T) {
	before := "p,a p,b p,c,a q,a,b"
	for _, changes := range []string{"", "p,d", "-p,a", "-p,a -p,b -p,c,a", "p,d -p,b q,b,b r,x", "-p,a -p,b -p,c,a p,e -q,a,b r,x r,y"} {
		was, is := storeOf(before), storeOf(before)
		is.Make(changesOf(changes))
		scene := is.Before(NewShift(changesOf(changes)))
		for _, name := range []string{"p", "q", "r", "none"} {
			checkView(t, changes, scene.View(name), was[name], is[name])
			checkView(t, changes, is.Now().View(name), is[name], was[name])
		}
	}
}

// checkView looks for just the tuples of a relation in view, and for those of another one.
func checkView(t *testing.T, changes string, view View, want, other Relation) {
	t.Helper()
	seen := Relation{}
	for tuple := range view.All() {
		if seen.Has(tuple) {
			t.Errorf("with %q the tuple %v is in view twice", changes, tuple.Constants())
		}
		seen[tuple] = struct{}{}
	}
	if !maps.Equal(seen, want) {
		t.Errorf("with %q there is %v in view, want %v", changes, seen, want)
	}
	for _, relation := range []Relation{want, other} {
		for tuple := range relation {
			if view.Has(tuple) != want.Has(tuple) {
				t.Errorf("with %q whether %v is in view is told as %t", changes, tuple.Constants(), view.Has(tuple))
			}
		}
	}
	// Whoever goes through it may stop anywhere.
	for stop := range len(want) {
		count := 0
		for range view.All() {
			if count == stop {
				break
			}
			count++
		}
		if count != stop {
			t.Errorf("with %q the way through ends behind %d tuples, want %d", changes, count, stop)
		}
	}
}

func TestMinus(t *testing.T) {
	numbers := []Count{{}, NewCount(1), NewCount(math.MaxInt64), NewCount(math.MaxUint64), NewCount(math.MaxUint64).Plus(NewCount(1)), NewCount(1 << 63).Times(math.MaxUint64)}
	for _, a := range numbers {
		for _, b := range numbers {
			if got := a.Plus(b).Minus(b); got != a {
				t.Errorf("%v with %v and without is %v", a, b, got)
			}
			// On the way it may be below 0.
			if got := a.Minus(b).Plus(b); got != a {
				t.Errorf("%v without %v and with it is %v", a, b, got)
			}
			if got, want := (Count{}).Minus(a).Times(3).Plus(a.Times(2)).Plus(a), (Count{}); got != want {
				t.Errorf("three times %v less is %v", a, got)
			}
		}
	}
}
