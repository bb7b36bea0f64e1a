package rules

import (
	"maps"
	"math/rand/v2"
	"slices"
	"strconv"
	"strings"
	"testing"

	"upshot/facts"
	"upshot/syntax"
)

func ruleOf(t *testing.T, text string) Rule {
	t.Helper()
	clauses, place, ok := syntax.Parse(text)
	if !ok || len(clauses) != 1 {
		t.Fatalf("%q is no clause: %d", text, place)
	}
	return New(clauses[0])
}

// storeOf makes a store of facts like "p,a,b q,c".
func storeOf(texts string) facts.Store {
	store := facts.Store{}
	for _, text := range strings.Fields(texts) {
		words := strings.Split(text, ",")
		store.Lay(words[0], facts.NewTuple(words[1:]))
	}
	return store
}

// told writes tuples and counts like "a,b:2", sorted.
func told(heads map[facts.Tuple]facts.Count) string {
	var list []string
	for tuple, count := range heads {
		list = append(list, strings.Join(tuple.Constants(), ",")+":"+strconv.Itoa(count.Int()))
	}
	slices.Sort(list)
	return strings.Join(list, " ")
}

func TestHeadsAndWays(t *testing.T) {
	for _, c := range []struct{ rule, store, want string }{
		{"p(X) :- q(X).", "", ""},
		{"p(X) :- q(X).", "q,a q,b", "a:1 b:1"},
		{"p(X) :- e(X,Y).", "e,a,b e,a,c e,b,a", "a:2 b:1"},
		{"p(x,X) :- e(X,Y), !q(Y).", "e,a,b e,a,c e,b,a q,a q,b", "x,a:1"},
		{"p(X,X) :- e(X,X).", "e,a,b e,a,a", "a,a:1"},
		{"p(x) :- e(a,b), !e(b,a).", "e,a,b", "x:1"},
		{"p(x) :- e(a,b), !e(b,a).", "e,a,b e,b,a", ""},
		{"p(x) :- !e(a,b).", "e,b,a", "x:1"},
		{"p(x) :- q(X), q(Y), !e(X,Y).", "q,a q,b q,c e,a,b e,c,c e,d,d", "x:7"},
		{"p(X,Z) :- e(X,Y), e(Y,Z).", "e,a,b e,b,c e,a,d e,d,c e,c,a", "a,c:2 b,a:1 c,b:1 c,d:1 d,a:1"},
		{"p(X) :- e(X,Y), e(Y,Z), e(Z,X), !q(Z).", "e,a,b e,b,c e,c,a q,a", "a:1 c:1"},
		{"p(a) :- e(X,Y), e(Z,W), q(V).", "e,1,2 e,1,3 e,2,3 q,1 q,2", "a:18"},
		{"p(X,Y,Z) :- t(X,A,B), t(Y,A,C), t(Z,B,C).", "t,1,a,b t,1,a,c t,1,b,c t,2,a,c", "1,1,1:1 1,2,1:1"},
	} {
		rule, store := ruleOf(t, c.rule), storeOf(c.store)
		heads := rule.Heads(store)
		if got := told(heads); got != c.want {
			t.Errorf("by %q from %q there follow %q, want %q", c.rule, c.store, got, c.want)
		}
		for tuple, count := range heads {
			if got := rule.Ways(tuple, store); got != count {
				t.Errorf("by %q from %q %v follows in %v ways, want %v", c.rule, c.store, tuple, got, count)
			}
		}
		if got := rule.Ways(facts.NewTuple([]string{"none", "none", "none"}), store); got != (facts.Count{}) {
			t.Errorf("by %q from %q there follows in %v ways what does not", c.rule, c.store, got)
		}
	}
}

// A join that begins with any literal, and is told of tuples one after another, finds what follows from each.
func TestFromAndTake(t *testing.T) {
	rule := ruleOf(t, "p(X,Z) :- e(X,Y), !q(Y), e(Y,Z), r(Z).")
	if got := rule.Places(map[string]struct{}{"e": {}, "q": {}}); !slices.Equal(got, []int{0, 2}) || rule.Size() != 4 {
		t.Errorf("the places of e are %v, and there are %d in all", got, rule.Size())
	}
	store := storeOf("q,x r,c r,d r,y")
	store["e"] = facts.Relation{}
	first, second := rule.From(0, store.Now(), store.Now()), rule.From(2, store.Now(), store.Now())
	if first.First() != "e" || first.Head() != "p" {
		t.Errorf("a join begins with %q and ends with %q", first.First(), first.Head())
	}
	for _, c := range []struct{ fact, first, second string }{
		{"a,b", "", ""},
		{"b,c", "", "a,c:1"},
		{"a,x", "", ""},
		{"x,y", "", ""},
		{"b,d", "", "a,d:1"},
		{"d,b", "d,c:1 d,d:1", ""},
		{"c,c", "c,c:1", "b,c:1 c,c:1"},
	} {
		laid := storeOf("e," + c.fact)
		store.LayAll(laid)
		first.Take(laid)
		second.Take(laid)
		first.Take(storeOf("p," + c.fact))
		if got := told(first.Heads(laid["e"])); got != c.first {
			t.Errorf("from e(%s) as the first one there follow %q, want %q", c.fact, got, c.first)
		}
		if got := told(second.Heads(laid["e"])); got != c.second {
			t.Errorf("from e(%s) as the other one there follow %q, want %q", c.fact, got, c.second)
		}
	}
}

// A join that begins with a literal, negated ones too, sees those ahead of it in one scene and those behind in another.
func TestFromSeesTwoScenes(t *testing.T) {
	ahead, behind := storeOf("e,a,b e,c,d n,b"), storeOf("e,b,x e,b,y e,d,z n,x n,z")
	for _, c := range []struct {
		rule, from, want string
		place            int
	}{
		{"p(X,Z) :- e(X,Y), m(Y), e(Y,Z).", "m,b", "a,x:1 a,y:1", 1},
		{"p(X,Z) :- e(X,Y), m(Y), e(Y,Z).", "m,b m,d m,x", "a,x:1 a,y:1 c,z:1", 1},
		{"p(X,Z) :- e(X,Y), !m(Y), e(Y,Z).", "m,b m,d", "a,x:1 a,y:1 c,z:1", 1},
		{"p(X,Z) :- e(X,Y), !m(Y), !n(Y), !n(Z), e(Y,Z).", "m,b m,d", "a,y:1", 1},
		{"p(X,Z) :- e(X,Y), !n(Y), m(Y), !n(Z), e(Y,Z).", "m,b m,d", "", 2},
		{"p(Y) :- m(Y), e(X,Y).", "m,b m,x m,y m,z", "x:1 y:1 z:1", 0},
		{"p(Y) :- e(X,Y), m(Y).", "m,b m,x m,y m,d", "b:1 d:1", 1},
		{"p(a) :- n(b), m(Y), n(x).", "m,1 m,2", "a:2", 1},
		{"p(a) :- n(x), m(Y), n(x).", "m,1 m,2", "", 1},
		{"p(a) :- !n(x), !m(1), !n(b).", "m,1", "a:1", 1},
		{"p(a) :- !n(b), !m(1), !n(b).", "m,1", "", 1},
	} {
		join := ruleOf(t, c.rule).From(c.place, ahead.Now(), behind.Now())
		if got := told(join.Heads(storeOf(c.from)["m"])); got != c.want {
			t.Errorf("by %q from %q there follow %q, want %q", c.rule, c.from, got, c.want)
		}
	}
}

func TestGained(t *testing.T) {
	rule := ruleOf(t, "p(X) :- e(X,Y), !n(X), n(Y), !e(Y,X), z(Y).")
	came, gone := storeOf("e,a,b n,a"), storeOf("n,b")
	shift := facts.Shift{Came: came, Gone: gone}
	for place, want := range []facts.Relation{came["e"], gone["n"], came["n"], nil, nil} {
		if got := rule.Gained(place, shift); !maps.Equal(got, want) {
			t.Errorf("the literal %d holds for %v that it did not hold for, want %v", place, got, want)
		}
	}
	for place, want := range []facts.Relation{nil, came["n"], gone["n"], came["e"], nil} {
		if got := rule.Gained(place, shift.Reversed()); !maps.Equal(got, want) {
			t.Errorf("on the way back the literal %d holds for %v, want %v", place, got, want)
		}
	}
}

// randomStore makes a store of tuples of e, n and t.
func randomStore(random *rand.Rand) facts.Store {
	store := facts.NewStore([]string{"e", "n", "t"})
	for range random.IntN(20) {
		var constants []string
		for range 3 {
			constants = append(constants, string("abc"[random.IntN(3)]))
		}
		i := random.IntN(3)
		store.Lay("net"[i:i+1], facts.NewTuple(constants[:i+1]))
	}
	return store
}

// What each literal that has changed makes more and less is in all what the rule has more and less, with the counts.
func TestChangesByLiterals(t *testing.T) {
	random := rand.New(rand.NewPCG(5, 6))
	for _, text := range []string{
		"p(X) :- n(X).",
		"p(X) :- e(X,Y), n(Y).",
		"p(X,Z) :- e(X,Y), e(Y,Z).",
		"p(X,Z) :- e(X,Y), e(Y,Z), !e(X,Z), !n(Y).",
		"p(X) :- e(X,X), e(X,Y), e(Y,X), !n(X).",
		"p(a,X) :- n(X), !n(b), n(c).",
		"p(a) :- !n(b), !n(c), !e(b,c).",
		"p(a) :- n(X), n(Y), n(Z), !t(X,Y,Z).",
		"p(X,Y) :- t(X,A,B), t(B,Y,A), !t(A,A,X).",
		"p(X,Y,Z) :- t(X,Y,Z), !e(X,Y), !e(Y,Z), e(Z,X).",
		"p(a) :- t(A,B,C), t(D,E,F), e(G,H), n(I).",
		"p(X) :- n(X), !n(X).",
	} {
		rule := ruleOf(t, text)
		for range 100 {
			before, now := randomStore(random), randomStore(random)
			shift := facts.Shift{Came: now, Gone: before}
			shift = facts.NewShift(shift.Changes())
			sums := rule.Heads(before)
			for place := range rule.Size() {
				join := rule.From(place, now.Now(), now.Before(shift))
				for tuple, count := range join.Heads(rule.Gained(place, shift)) {
					sums[tuple] = sums[tuple].Plus(count)
				}
				for tuple, count := range join.Heads(rule.Gained(place, shift.Reversed())) {
					sums[tuple] = sums[tuple].Minus(count)
				}
			}
			maps.DeleteFunc(sums, func(_ facts.Tuple, count facts.Count) bool { return count == facts.Count{} })
			if want := rule.Heads(now); !maps.Equal(sums, want) {
				t.Fatalf("by %q the changes from %q to %q make %q, want %q", text, before.Text(), now.Text(), told(sums), told(want))
			}
		}
	}
}

// Of few tuples and of many, those that follow are found, and no others.
func TestStill(t *testing.T) {
	store := facts.Store{}
	list := strings.Split("a b c d e f g h i j k l m n o p q r", " ")
	for i, x := range list {
		for k, y := range list {
			if (i+2*k)%3 > 0 {
				store.Lay("e", facts.NewTuple([]string{x, y}))
			}
			for l, z := range list {
				if (i+k+l)%7 < 2 {
					store.Lay("t", facts.NewTuple([]string{x, y, z}))
				}
			}
		}
	}
	for _, text := range []string{
		"p(X,Y,Z) :- e(X,Y), e(Y,Z), !e(X,Z).",
		"p(X,Y,Z) :- e(X,Y), e(Y,Z), e(Z,W), t(W,X,Y).",
		"p(Y,Z,A) :- t(X,Y,Z), t(A,B,C), !e(A,A).",
		"p(X,a,b) :- e(X,Y).",
		"p(a,a,a) :- t(X,Y,Z), !e(X,Y).",
		"p(a,a,a) :- e(X,X), t(a,a,b).",
		"p(X,Y,Y) :- e(X,A), e(Y,B), e(A,B).",
	} {
		rule := ruleOf(t, text)
		heads := rule.Heads(store)
		for _, some := range []int{0, 1, 2, 50, len(list) * len(list) * len(list)} {
			checkStill(t, rule, store, heads, list[:min(some, len(list))], some)
		}
	}
}

// checkStill asks for tuples of some constants, as many as are wanted.
func checkStill(t *testing.T, rule Rule, store facts.Store, heads map[facts.Tuple]facts.Count, constants []string, most int) {
	t.Helper()
	asked, want := facts.Relation{}, facts.Relation{}
	for _, x := range constants {
		for _, y := range constants {
			for _, z := range constants {
				tuple := facts.NewTuple([]string{x, y, z})
				if len(asked) == most {
					continue
				}
				asked[tuple] = struct{}{}
				if heads[tuple] != (facts.Count{}) {
					want[tuple] = struct{}{}
				}
			}
		}
	}
	if got := rule.Still(asked, store); !maps.Equal(got, want) {
		t.Errorf("of %d tuples %d follow still, want %d", len(asked), len(got), len(want))
	}
}

// The order of a join never has more variables at work than must be.
func TestOrder(t *testing.T) {
	for _, c := range []struct {
		rule string
		most int
	}{
		{"p(a) :- q(A,B,C), q(D,E,F), q(G,H,I), q(J,K,L).", 0},
		{"p(A) :- q(A,B,C), q(D,E,F), q(G,H,I), q(J,K,L).", 1},
		{"p(A,L) :- q(A,B,C), q(C,E,F), q(F,H,I), q(I,K,L).", 3},
		{"p(A,L) :- q(F,H,I), q(A,B,C), q(I,K,L), q(C,E,F).", 3},
		{"p(X) :- n(X), q(A,B,C), q(C,D,E), q(E,F,A).", 3},
		{"p(X,Y) :- n(X), n(Y), !q(X,Y,a), !n(a).", 2},
		{"p(a) :- n(X), n(Y), n(Z), !q(X,Y,Z).", 3},
	} {
		rule := ruleOf(t, c.rule)
		head := rule.head.variables()
		start, rest := newSieve(0, parts(rule.body, facts.Scene{}), head)
		steps, _ := cheapest(start.live, rest, head)
		live, literals := start.live, len(start.asks)
		for _, s := range steps {
			if got := (live | s.fresh).size(); got > c.most {
				t.Errorf("%q has %d variables at work, want %d at most", c.rule, got, c.most)
			}
			live = s.live
			literals += 1 + len(s.asks)
		}
		if live != head || literals != len(rule.body) {
			t.Errorf("%q goes through %d literals, and ends with the variables %b", c.rule, literals, live)
		}
	}
}
