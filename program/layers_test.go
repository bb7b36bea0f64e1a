package program

import (
	"maps"
	"slices"
	"strings"
	"testing"

	"upshot/api"
	"upshot/syntax"
)

func read(t *testing.T, text string) []syntax.Clause {
	t.Helper()
	clauses, fault, place := Read(text)
	if fault != api.OK {
		t.Fatalf("Read(%q) tells error %d, place %d", text, fault, place)
	}
	return clauses
}

// told writes the names of a layer's rules, and a + if they stand above themselves.
func told(layer Layer) string {
	names := map[string]struct{}{}
	for _, rule := range layer.Rules {
		names[rule.Head.Name] = struct{}{}
	}
	text := strings.Join(slices.Sorted(maps.Keys(names)), "")
	if layer.Reaching {
		text += "+"
	}
	return text
}

func TestLayers(t *testing.T) {
	for _, c := range []struct{ text, want string }{
		{"", ""},
		{"a(x). b(x).", ""},
		{"a(X):-b(X).", "a"},
		{"a(X):-a(X).", "a+"},
		{"a(X):-a(X). a(X):-b(X).", "a+"},
		{"a(X):-b(X). b(X):-a(X).", "ab+"},
		{"c(X):-b(X). b(X):-a(X).", "b c"},
		{"b(X):-a(X). c(X):-b(X).", "b c"},
		{"c(X):-a(X),!b(X). b(X):-a(X).", "b c"},
		// One above another that stands above itself.
		{"a(X):-b(X). b(X):-b(X).", "b+ a"},
		{"b(X):-b(X). a(X):-b(X). c(X):-a(X),b(X).", "b+ a c"},
		{"a(X):-b(X),!c(X). b(X):-d(X). d(X):-b(X),e(X). c(X):-e(X).", "bd+ c a"},
		{"a(X):-b(X). b(X):-c(X). c(X):-a(X). d(X):-a(X). e(X):-d(X). d(X):-e(X).", "abc+ de+"},
		{"h(X):-g(X). g(X):-f(X). f(X):-e(X). e(X):-d(X). d(X):-c(X). c(X):-b(X). b(X):-a(X).", "b c d e f g h"},
	} {
		var got []string
		rules := 0
		for _, layer := range Layers(read(t, c.text)) {
			got = append(got, told(layer))
			rules += len(layer.Rules)
		}
		slices.Sort(got)
		want := strings.Fields(c.want)
		slices.Sort(want)
		if !slices.Equal(got, want) || rules != strings.Count(c.text, ":-") {
			t.Errorf("the layers of %q are %v with %d rules, want %v", c.text, got, rules, want)
		}
		checkLayers(t, c.text)
	}
}

// checkLayers sees that each layer stands behind those that its rules look at.
func checkLayers(t *testing.T, text string) {
	t.Helper()
	clauses := read(t, text)
	names := Names(clauses)
	done := map[string]bool{}
	for _, layer := range Layers(clauses) {
		for _, rule := range layer.Rules {
			done[rule.Head.Name] = true
		}
		for _, rule := range layer.Rules {
			for _, literal := range rule.Body {
				if names[literal.Name].Derived && !done[literal.Name] {
					t.Errorf("in %q the layer %s looks at %s, which is not ahead of it", text, told(layer), literal.Name)
				}
			}
		}
	}
}

// All ways in which three names and one more stand in rules of one another.
func TestLayersOfThreeNames(t *testing.T) {
	for ways := range 1 << 9 {
		var text strings.Builder
		for i := range 9 {
			if ways>>i&1 == 1 {
				text.WriteString("pqr"[i/3:i/3+1] + "(a):-" + "pqr"[i%3:i%3+1] + "(a).")
			}
		}
		checkLayers(t, text.String())
		checkLayers(t, text.String()+"r(b):-!z(b).")
	}
}

func TestNames(t *testing.T) {
	for _, c := range []struct {
		text string
		want map[string]Name
	}{
		{"", map[string]Name{}},
		{"p(a,b). q(c).", map[string]Name{"p": {2, false}, "q": {1, false}}},
		{"p(X):-q(X,Y),!r(Y,Y,X).", map[string]Name{"p": {1, true}, "q": {2, false}, "r": {3, false}}},
		// A name may stand in a body ahead of the rules for it, and behind them.
		{"p(X):-q(X). q(X):-r(X). s(X):-p(X).", map[string]Name{"p": {1, true}, "q": {1, true}, "r": {1, false}, "s": {1, true}}},
		{"p(X):-p(X).", map[string]Name{"p": {1, true}}},
	} {
		if got := Names(read(t, c.text)); !maps.Equal(got, c.want) {
			t.Errorf("the names of %q are %v, want %v", c.text, got, c.want)
		}
	}
}
