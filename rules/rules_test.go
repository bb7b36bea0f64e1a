package rules

import (
	"slices"
	"strconv"
	"strings"
	"testing"

	"upshot/facts"
	"upshot/syntax"
)

func ruleOf(t *testing.T, text string) Rule {
	t.Helper()
	clauses, place, ok := syntax.Parse(text)
	if !ok || len(clauses) != 1 {
		t.Fatalf("%q is no clause: %d", text, place)
	}
	return New(clauses[0])
}

// storeOf makes a store of facts like "p,a,b q,c".
func storeOf(texts string) facts.Store {
	store := facts.Store{}
	for _, text := range strings.Fields(texts) {
		words := strings.Split(text, ",")
		store.Lay(words[0], facts.NewTuple(words[1:]))
	}
	return store
}

// told writes tuples and counts like "a,b:2", sorted.
func told(heads map[facts.Tuple]facts.Count) string {
	var list []string
	for tuple, count := range heads {
		list = append(list, strings.Join(tuple.Constants(), ",")+":"+strconv.Itoa(count.Int()))
	}
	slices.Sort(list)
	return strings.Join(list, " ")
}

func TestHeadsAndWays(t *testing.T) {
	for _, c := range []struct{ rule, store, want string }{
		{"p(X) :- q(X).", "", ""},
		{"p(X) :- q(X).", "q,a q,b", "a:1 b:1"},
		{"p(X) :- e(X,Y).", "e,a,b e,a,c e,b,a", "a:2 b:1"},
		{"p(x,X) :- e(X,Y), !q(Y).", "e,a,b e,a,c e,b,a q,a q,b", "x,a:1"},
		{"p(X,X) :- e(X,X).", "e,a,b e,a,a", "a,a:1"},
		{"p(x) :- e(a,b), !e(b,a).", "e,a,b", "x:1"},
		{"p(x) :- e(a,b), !e(b,a).", "e,a,b e,b,a", ""},
		{"p(x) :- !e(a,b).", "e,b,a", "x:1"},
		{"p(x) :- q(X), q(Y), !e(X,Y).", "q,a q,b q,c e,a,b e,c,c e,d,d", "x:7"},
		{"p(X,Z) :- e(X,Y), e(Y,Z).", "e,a,b e,b,c e,a,d e,d,c e,c,a", "a,c:2 b,a:1 c,b:1 c,d:1 d,a:1"},
		{"p(X) :- e(X,Y), e(Y,Z), e(Z,X), !q(Z).", "e,a,b e,b,c e,c,a q,a", "a:1 c:1"},
		{"p(a) :- e(X,Y), e(Z,W), q(V).", "e,1,2 e,1,3 e,2,3 q,1 q,2", "a:18"},
		{"p(X,Y,Z) :- t(X,A,B), t(Y,A,C), t(Z,B,C).", "t,1,a,b t,1,a,c t,1,b,c t,2,a,c", "1,1,1:1 1,2,1:1"},
	} {
		rule, store := ruleOf(t, c.rule), storeOf(c.store)
		heads := rule.Heads(store)
		if got := told(heads); got != c.want {
			t.Errorf("by %q from %q there follow %q, want %q", c.rule, c.store, got, c.want)
		}
		for tuple, count := range heads {
			if got := rule.Ways(tuple, store); got != count {
				t.Errorf("by %q from %q %v follows in %v ways, want %v", c.rule, c.store, tuple, got, count)
			}
		}
		if got := rule.Ways(facts.NewTuple([]string{"none", "none", "none"}), store); got != (facts.Count{}) {
			t.Errorf("by %q from %q there follows in %v ways what does not", c.rule, c.store, got)
		}
	}
}

// A join that begins with any literal, and is told of tuples one after another, finds what follows from each.
func TestFromAndTake(t *testing.T) {
	rule := ruleOf(t, "p(X,Z) :- e(X,Y), !q(Y), e(Y,Z), r(Z).")
	if got := rule.Places(map[string]struct{}{"e": {}, "q": {}}); !slices.Equal(got, []int{0, 2}) {
		t.Errorf("the places of e are %v", got)
	}
	store := storeOf("q,x r,c r,d r,y")
	store["e"] = facts.Relation{}
	first, second := rule.From(0, store), rule.From(2, store)
	if first.First() != "e" || first.Head() != "p" {
		t.Errorf("a join begins with %q and ends with %q", first.First(), first.Head())
	}
	for _, c := range []struct{ fact, first, second string }{
		{"a,b", "", ""},
		{"b,c", "", "a,c:1"},
		{"a,x", "", ""},
		{"x,y", "", ""},
		{"b,d", "", "a,d:1"},
		{"d,b", "d,c:1 d,d:1", ""},
		{"c,c", "c,c:1", "b,c:1 c,c:1"},
	} {
		tuple := facts.NewTuple(strings.Split(c.fact, ","))
		store.Lay("e", tuple)
		first.Take("e", facts.One(tuple))
		second.Take("e", facts.One(tuple))
		first.Take("p", facts.One(tuple))
		if got := told(first.Heads(facts.One(tuple))); got != c.first {
			t.Errorf("from e(%s) as the first one there follow %q, want %q", c.fact, got, c.first)
		}
		if got := told(second.Heads(facts.One(tuple))); got != c.second {
			t.Errorf("from e(%s) as the other one there follow %q, want %q", c.fact, got, c.second)
		}
	}
}

// The order of a join never has more variables at work than must be.
func TestOrder(t *testing.T) {
	for _, c := range []struct {
		rule string
		most int
	}{
		{"p(a) :- q(A,B,C), q(D,E,F), q(G,H,I), q(J,K,L).", 0},
		{"p(A) :- q(A,B,C), q(D,E,F), q(G,H,I), q(J,K,L).", 1},
		{"p(A,L) :- q(A,B,C), q(C,E,F), q(F,H,I), q(I,K,L).", 3},
		{"p(A,L) :- q(F,H,I), q(A,B,C), q(I,K,L), q(C,E,F).", 3},
		{"p(X) :- n(X), q(A,B,C), q(C,D,E), q(E,F,A).", 3},
		{"p(X,Y) :- n(X), n(Y), !q(X,Y,a), !n(a).", 2},
		{"p(a) :- n(X), n(Y), n(Z), !q(X,Y,Z).", 3},
	} {
		rule := ruleOf(t, c.rule)
		head := rule.head.variables()
		start, rest := newSieve(0, rule.body, head)
		steps, _ := cheapest(start.live, rest, head)
		live, literals := start.live, len(start.asks)
		for _, s := range steps {
			if got := (live | s.fresh).size(); got > c.most {
				t.Errorf("%q has %d variables at work, want %d at most", c.rule, got, c.most)
			}
			live = s.live
			literals += 1 + len(s.asks)
		}
		if live != head || literals != len(rule.body) {
			t.Errorf("%q goes through %d literals, and ends with the variables %b", c.rule, literals, live)
		}
	}
}
