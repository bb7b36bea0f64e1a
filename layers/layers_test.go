package layers

import (
	"strings"
	"testing"

	"upshot/api"
	"upshot/facts"
	"upshot/program"
)

// pipeOf makes the pipe of a program, with a store of its facts.
func pipeOf(t *testing.T, text string) (*Pipe, facts.Store, []facts.Change) {
	t.Helper()
	clauses, fault, place := program.Read(text)
	if fault != api.OK {
		t.Fatalf("Read(%q) tells error %d, place %d", text, fault, place)
	}
	var names []string
	for name := range program.Names(clauses) {
		names = append(names, name)
	}
	store := facts.NewStore(names)
	var base []facts.Change
	for _, clause := range clauses {
		if clause.IsFact() {
			var constants []string
			for _, term := range clause.Head.Terms {
				constants = append(constants, term.Text)
			}
			tuple := facts.NewTuple(constants)
			store.Lay(clause.Head.Name, tuple)
			base = append(base, facts.Change{Name: clause.Head.Name, Tuple: tuple})
		}
	}
	return New(program.Layers(clauses), store), store, base
}

func TestKindsOfLayers(t *testing.T) {
	pipe, _, _ := pipeOf(t, "a(X):-b(X). c(X):-c(X). d(X):-e(X),!c(X). e(X):-f(X). f(X):-e(X).")
	for name, wantReaching := range map[string]bool{"a": false, "c": true, "d": false, "e": true, "f": true} {
		if _, is := pipe.byName[name].(*reaching); is != wantReaching {
			t.Errorf("the layer of %s is a %T", name, pipe.byName[name])
		}
		if _, is := pipe.byName[name].(*counting); is == wantReaching {
			t.Errorf("the layer of %s is a %T", name, pipe.byName[name])
		}
	}
	if pipe.byName["e"] != pipe.byName["f"] || len(pipe.layers) != 4 {
		t.Errorf("there are %d layers, want 4: names that stand above one another are in one", len(pipe.layers))
	}
}

// A layer lists what it lays, each once, and nothing else.
func TestFillListsWhatItLays(t *testing.T) {
	for _, text := range []string{
		"p(X):-q(X,Y). p(Y):-q(X,Y). p(a):-!q(b,a). q(a,b). q(a,c). q(b,c).",
		"p(X,Y):-q(X,Y). p(X,Z):-p(X,Y),p(Y,Z). q(a,b). q(b,c). q(c,a).",
		"p(X):-q(X,Y). r(Y):-p(X),q(X,Y). p(X):-r(X). q(a,b). q(b,c). q(d,d).",
		"p(X):-p(X). q(a,b).",
	} {
		pipe, store, _ := pipeOf(t, text)
		laid := map[facts.Change]int{}
		for _, l := range pipe.layers {
			for _, change := range l.fill() {
				laid[change]++
				if laid[change] > 1 || change.Name == "q" || !store[change.Name].Has(change.Tuple) {
					t.Errorf("in %q a layer lists %v, %d times", text, change, laid[change])
				}
			}
		}
		if got := len(store["p"]) + len(store["r"]); got != len(laid) {
			t.Errorf("in %q layers list %d tuples, and lay %d", text, len(laid), got)
		}
	}
}

// spy is a layer that does nothing but look at what is there when it is its turn.
type spy struct {
	store facts.Store
	ahead string // a name that must be there by then
	adds  string
	seen  *[]string
}

func (s spy) fill() []facts.Change {
	text := s.adds + " too early"
	if s.ahead == "" || len(s.store[s.ahead]) > 0 {
		text = s.adds
	}
	*s.seen = append(*s.seen, text)
	s.store.Lay(s.adds, facts.Tuple{1})
	return []facts.Change{{Name: s.adds, Tuple: facts.Tuple{1}}}
}

func (s spy) support(string, facts.Tuple) facts.Count { return facts.Count{} }

// A layer begins when those ahead of it are done, however much comes through the pipe.
func TestPipeGoesLayerByLayer(t *testing.T) {
	names := strings.Split("abcdefgh", "")
	for _, size := range []int{0, 1, room - 1, room, room + 1, 10 * room} {
		var seen []string
		store := facts.NewStore(names)
		pipe := &Pipe{}
		ahead := ""
		for _, name := range names {
			pipe.layers = append(pipe.layers, spy{store: store, ahead: ahead, adds: name, seen: &seen})
			ahead = name
		}
		pipe.Fill(make([]facts.Change, size))
		if got := strings.Join(seen, " "); got != "a b c d e f g h" {
			t.Errorf("with %d changes the layers go %q", size, got)
		}
	}
}

// What comes to a layer goes on from it, and then what it adds.
func TestWorkPassesOn(t *testing.T) {
	var seen []string
	came := []facts.Change{{Name: "x"}, {Name: "y"}}
	from, to := make(chan facts.Change, room), make(chan facts.Change, room)
	send(from, came)
	work(spy{store: facts.Store{}, adds: "a", seen: &seen}, from, to)
	var names string
	for _, change := range receive(to) {
		names += change.Name
	}
	if names != "xya" {
		t.Errorf("a layer passes on %q", names)
	}
}

func TestPipeFillsAndSupports(t *testing.T) {
	pipe, store, base := pipeOf(t, "p(X,Y):-e(X,Y). p(X,Z):-p(X,Y),p(Y,Z). s(X):-p(X,Y),!t(X). t(X):-e(X,X). e(a,b). e(b,c). e(c,c).")
	pipe.Fill(base)
	want := "e(a,b).\ne(b,c).\ne(c,c).\np(a,b).\np(a,c).\np(b,c).\np(c,c).\ns(a).\ns(b).\nt(c).\n"
	if got := store.Text(); got != want {
		t.Errorf("the pipe fills %q, want %q", got, want)
	}
	for fact, want := range map[string]int{"s a": 2, "s b": 1, "s c": 0, "t c": 1, "p a c": 2, "p b c": 2, "p c c": 2, "p c a": 0} {
		words := strings.Fields(fact)
		if got := pipe.Support(words[0], facts.NewTuple(words[1:])).Int(); got != want {
			t.Errorf("the support of %s is %d, want %d", fact, got, want)
		}
	}
}
