package layers

import (
	"slices"
	"strings"
	"testing"

	"upshot/api"
	"upshot/facts"
	"upshot/program"
)

// pipeOf makes the pipe of a program, with a store of its facts.
func pipeOf(t *testing.T, text string) (*Pipe, facts.Store, []facts.Change) {
	t.Helper()
	clauses, fault, place := program.Read(text)
	if fault != api.OK {
		t.Fatalf("Read(%q) tells error %d, place %d", text, fault, place)
	}
	var names []string
	for name := range program.Names(clauses) {
		names = append(names, name)
	}
	store := facts.NewStore(names)
	var base []facts.Change
	for _, clause := range clauses {
		if clause.IsFact() {
			var constants []string
			for _, term := range clause.Head.Terms {
				constants = append(constants, term.Text)
			}
			tuple := facts.NewTuple(constants)
			store.Lay(clause.Head.Name, tuple)
			base = append(base, facts.Change{Name: clause.Head.Name, Tuple: tuple})
		}
	}
	return New(program.Layers(clauses), store), store, base
}

func TestKindsOfLayers(t *testing.T) {
	pipe, _, _ := pipeOf(t, "a(X):-b(X). c(X):-c(X). d(X):-e(X),!c(X). e(X):-f(X). f(X):-e(X).")
	for name, wantReaching := range map[string]bool{"a": false, "c": true, "d": false, "e": true, "f": true} {
		if _, is := pipe.byName[name].(*reaching); is != wantReaching {
			t.Errorf("the layer of %s is a %T", name, pipe.byName[name])
		}
		if _, is := pipe.byName[name].(*counting); is == wantReaching {
			t.Errorf("the layer of %s is a %T", name, pipe.byName[name])
		}
	}
	if pipe.byName["e"] != pipe.byName["f"] || len(pipe.layers) != 4 {
		t.Errorf("there are %d layers, want 4: names that stand above one another are in one", len(pipe.layers))
	}
}

// A layer lists what it lays, each once, and nothing else.
func TestFillListsWhatItLays(t *testing.T) {
	for _, text := range []string{
		"p(X):-q(X,Y). p(Y):-q(X,Y). p(a):-!q(b,a). q(a,b). q(a,c). q(b,c).",
		"p(X,Y):-q(X,Y). p(X,Z):-p(X,Y),p(Y,Z). q(a,b). q(b,c). q(c,a).",
		"p(X):-q(X,Y). r(Y):-p(X),q(X,Y). p(X):-r(X). q(a,b). q(b,c). q(d,d).",
		"p(X):-p(X). q(a,b).",
	} {
		pipe, store, _ := pipeOf(t, text)
		laid := map[facts.Change]int{}
		for _, l := range pipe.layers {
			for _, change := range l.fill() {
				laid[change]++
				if laid[change] > 1 || change.Name == "q" || !store[change.Name].Has(change.Tuple) {
					t.Errorf("in %q a layer lists %v, %d times", text, change, laid[change])
				}
			}
		}
		if got := len(store["p"]) + len(store["r"]); got != len(laid) {
			t.Errorf("in %q layers list %d tuples, and lay %d", text, len(laid), got)
		}
	}
}

// spy is a layer that does nothing but look at what is there, and at what came, when it is its turn.
type spy struct {
	store facts.Store
	ahead string // a name that must be there by then
	adds  string
	seen  *[]string
}

func (s spy) fill() []facts.Change {
	text := s.adds + " too early"
	if s.ahead == "" || len(s.store[s.ahead]) > 0 {
		text = s.adds
	}
	*s.seen = append(*s.seen, text)
	one := facts.NewTuple([]string{"1"})
	s.store.Lay(s.adds, one)
	return []facts.Change{{Name: s.adds, Tuple: one}}
}

func (s spy) carry(came []facts.Change) []facts.Change {
	added := s.fill()
	for _, change := range came {
		(*s.seen)[len(*s.seen)-1] += change.Name
	}
	return added
}

func (s spy) support(string, facts.Tuple) facts.Count { return facts.Count{} }

// spies makes a pipe of spies with these names.
func spies(names []string, seen *[]string) *Pipe {
	store := facts.NewStore(names)
	pipe := &Pipe{}
	ahead := ""
	for _, name := range names {
		pipe.layers = append(pipe.layers, spy{store: store, ahead: ahead, adds: name, seen: seen})
		ahead = name
	}
	return pipe
}

// A layer begins when those ahead of it are done, however much comes through the pipe.
func TestPipeGoesLayerByLayer(t *testing.T) {
	for _, size := range []int{0, 1, room - 1, room, room + 1, 10 * room} {
		var seen []string
		spies(strings.Split("abcdefgh", ""), &seen).Fill(make([]facts.Change, size))
		if got := strings.Join(seen, " "); got != "a b c d e f g h" {
			t.Errorf("with %d changes the layers go %q", size, got)
		}
		seen = nil
		changes := spies(strings.Split("abcd", ""), &seen).Carry(make([]facts.Change, size))
		if got := strings.Join(seen, " "); got != "a ba cab dabc" || len(changes) != size+4 {
			t.Errorf("with %d changes the layers go %q, and list %d changes", size, got, len(changes))
		}
	}
}

// What comes to a layer goes on from it, and then what it adds.
func TestWorkPassesOn(t *testing.T) {
	var seen []string
	came := []facts.Change{{Name: "x"}, {Name: "y", Gone: true}}
	from, to := make(chan facts.Change, room), make(chan facts.Change, room)
	send(from, came)
	work(spy{store: facts.Store{}, adds: "a", seen: &seen}, layer.carry, from, to)
	if got := told(receive(to)); got != "x() -y() a(1)" || seen[0] != "axy" {
		t.Errorf("a layer passes on %q, and sees %q", got, seen)
	}
}

func TestPipeFillsAndSupports(t *testing.T) {
	pipe, store, base := pipeOf(t, "p(X,Y):-e(X,Y). p(X,Z):-p(X,Y),p(Y,Z). s(X):-p(X,Y),!t(X). t(X):-e(X,X). e(a,b). e(b,c). e(c,c).")
	pipe.Fill(base)
	want := "e(a,b).\ne(b,c).\ne(c,c).\np(a,b).\np(a,c).\np(b,c).\np(c,c).\ns(a).\ns(b).\nt(c).\n"
	if got := store.Text(); got != want {
		t.Errorf("the pipe fills %q, want %q", got, want)
	}
	for fact, want := range map[string]int{"s a": 2, "s b": 1, "s c": 0, "t c": 1, "p a c": 2, "p b c": 2, "p c c": 2, "p c a": 0} {
		words := strings.Fields(fact)
		if got := pipe.Support(words[0], facts.NewTuple(words[1:])).Int(); got != want {
			t.Errorf("the support of %s is %d, want %d", fact, got, want)
		}
	}
}

// told writes changes as they come.
func told(changes []facts.Change) string {
	var texts []string
	for _, c := range changes {
		text := c.Name + "(" + strings.Join(c.Tuple.Constants(), ",") + ")"
		if c.Gone {
			text = "-" + text
		}
		texts = append(texts, text)
	}
	return strings.Join(texts, " ")
}

// changesOf reads changes like "e,a,b -e,b,c".
func changesOf(texts string) []facts.Change {
	var changes []facts.Change
	for _, text := range strings.Fields(texts) {
		words := strings.Split(strings.TrimPrefix(text, "-"), ",")
		changes = append(changes, facts.Change{Name: words[0], Tuple: facts.NewTuple(words[1:]), Gone: text[0] == '-'})
	}
	return changes
}

// What is carried through the layers is listed once, and is what has changed in the store.
func TestCarry(t *testing.T) {
	const (
		paths  = "p(X,Y):-e(X,Y). p(X,Z):-p(X,Y),e(Y,Z). e(a,b). e(b,c)."
		ring   = "p(X):-q(X). q(X):-p(X). p(X):-n(X). q(X):-m(X). r(X):-k(X),!p(X). n(a). m(a). n(b). k(a). k(b)."
		counts = "s(X):-e(X,Y),!n(Y). u(X):-s(X),e(X,X). v(X):-e(X,Y),!u(X). e(a,b). e(a,c)."
	)
	for _, c := range []struct{ text, changes, want string }{
		{paths, "", ""},
		{paths, "e,c,a", "e(c,a) p(a,a) p(b,a) p(b,b) p(c,a) p(c,b) p(c,c)"},
		{paths, "-e,a,b", "-e(a,b) -p(a,b) -p(a,c)"},
		{paths, "-e,a,b e,a,c", "-e(a,b) e(a,c) -p(a,b)"},
		{paths, "-e,b,c e,c,b", "-e(b,c) e(c,b) -p(a,c) -p(b,c) p(c,b)"},
		{ring, "-n,a", "-n(a)"},
		{ring, "-n,a -m,a", "-m(a) -n(a) -p(a) -q(a) r(a)"},
		{ring, "-n,b m,c k,c", "k(c) m(c) -n(b) -p(b) p(c) -q(b) q(c) r(b)"},
		{ring, "-n,b m,b", "m(b) -n(b)"},
		{counts, "-e,a,b", "-e(a,b)"},
		{counts, "n,b", "n(b)"},
		{counts, "n,b n,c", "n(b) n(c) -s(a)"},
		{counts, "n,b -e,a,c", "-e(a,c) n(b) -s(a)"},
		{counts, "e,a,a", "e(a,a) u(a) -v(a)"},
		{counts, "e,a,a n,b", "e(a,a) n(b) u(a) -v(a)"},
		{counts, "e,a,a n,a n,b n,c", "e(a,a) n(a) n(b) n(c) -s(a)"},
	} {
		pipe, store, base := pipeOf(t, c.text)
		pipe.Fill(base)
		first := store.Text()
		changes := changesOf(c.changes)
		store.Make(changes)
		shift := facts.NewShift(changes)
		got := pipe.Carry(changes)
		slices.SortFunc(got, facts.Change.Compare)
		if told(got) != c.want {
			t.Errorf("in %q the changes %q make %q, want %q", c.text, c.changes, told(got), c.want)
		}
		store.Make(shift.Reversed().Changes())
		back := pipe.Carry(shift.Reversed().Changes())
		slices.SortFunc(back, facts.Change.Compare)
		if reversed := facts.NewShift(back).Reversed().Changes(); len(reversed) != len(got) || store.Text() != first {
			t.Errorf("in %q the way back from the changes %q makes %q", c.text, c.changes, told(back))
		}
	}
}

// A name that stands above itself is taken away where it has lost one of its ways, and what still follows is laid back.
func TestTakesTooMuchAndLaysBack(t *testing.T) {
	pipe, store, base := pipeOf(t, "p(X,Y):-e(X,Y). p(X,Z):-p(X,Y),e(Y,Z). e(a,b). e(b,c). e(a,c). e(c,d). e(x,y).")
	pipe.Fill(base)
	r := pipe.byName["p"].(*reaching)
	shift := facts.NewShift(changesOf("-e,b,c"))
	store.TakeAll(shift.Gone)
	taken := r.take(shift)
	if got, want := taken.Text(), "p(a,c).\np(a,d).\np(b,c).\np(b,d).\n"; got != want {
		t.Errorf("%q is taken away, want %q", got, want)
	}
	still := r.still(taken)
	if got, want := still.Text(), "p(a,c).\n"; got != want {
		t.Errorf("%q follows in one step from what is left, want %q", got, want)
	}
	if got, want := r.lay(still).Text(), "p(a,c).\np(a,d).\n"; got != want {
		t.Errorf("%q is laid back, want %q", got, want)
	}
}

// A name that does not stand above itself has no support left for what does not follow.
func TestSettle(t *testing.T) {
	pipe, store, base := pipeOf(t, "s(X):-e(X,Y),!n(Y). e(a,b). e(a,c). e(b,c).")
	pipe.Fill(base)
	c := pipe.byName["s"].(*counting)
	for _, step := range []struct {
		changes string
		a, b    uint64
	}{{"", 2, 1}, {"n,c", 1, 0}, {"-e,a,b n,d", 0, 0}, {"e,b,d e,a,d", 0, 0}, {"-n,d", 1, 1}, {"-n,c", 2, 2}} {
		changes := changesOf(step.changes)
		store.Make(changes)
		pipe.Carry(changes)
		supports := 0
		for text, want := range map[string]uint64{"a": step.a, "b": step.b} {
			tuple := facts.NewTuple([]string{text})
			if got := c.supports[tuple]; got != facts.NewCount(want) || store.Has("s", tuple) != (want > 0) {
				t.Errorf("with %q the support of s(%s) is %v, want %d", step.changes, text, got, want)
			}
			supports += int(min(want, 1))
		}
		if len(c.supports) != supports {
			t.Errorf("with %q there are %d supports kept, want %d", step.changes, len(c.supports), supports)
		}
	}
}
