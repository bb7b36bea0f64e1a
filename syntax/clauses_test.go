package syntax

import (
	"reflect"
	"strings"
	"testing"
)

func TestParseGivesClauses(t *testing.T) {
	constant := func(text string) Term { return Term{Text: text} }
	open := func(text string) Term { return Term{Text: text, Variable: true} }
	clauses, place, ok := Parse("n(1, a_b). % two\nq(X):-n(X,Y1),!r(x,Y1).")
	want := []Clause{
		{Head: Atom{"n", []Term{constant("1"), constant("a_b")}}},
		{Head: Atom{"q", []Term{open("X")}}, Body: []Literal{
			{Atom: Atom{"n", []Term{open("X"), open("Y1")}}},
			{Atom: Atom{"r", []Term{constant("x"), open("Y1")}}, Negated: true},
		}},
	}
	if !ok || place != 0 || !reflect.DeepEqual(clauses, want) {
		t.Errorf("Parse gives %v, %d, %t; want %v", clauses, place, ok, want)
	}
	if !clauses[0].IsFact() || clauses[1].IsFact() {
		t.Error("a fact is taken for a rule, or a rule for a fact")
	}
	var names []string
	for _, atom := range clauses[1].Atoms() {
		names = append(names, atom.Name)
	}
	if got := strings.Join(names, " "); got != "q n r" {
		t.Errorf("the atoms' names are %q", got)
	}
}

// next tells, for each state of a clause, the pieces that may come and the state behind each.
// (The grammar is regular, so a table of states is another way to tell what Parse is to tell.)
func next(state, piece string) string {
	return map[string]map[string]string{
		"start":        {"p": "head name"},
		"head name":    {"(": "head terms"},
		"head terms":   {"p": "head term", "1": "head term", "X": "head term"},
		"head term":    {",": "head terms", ")": "head"},
		"head":         {".": "start", ":-": "body"},
		"body":         {"!": "negated", "p": "body name"},
		"negated":      {"p": "body name"},
		"body name":    {"(": "body terms"},
		"body terms":   {"p": "body term", "1": "body term", "X": "body term"},
		"body term":    {",": "body terms", ")": "body literal"},
		"body literal": {",": "body", ".": "start"},
	}[state][piece]
}

// All texts of some pieces of which each but the last may come where it stands.
func TestParseTellsTheFirstPieceThatCannotCome(t *testing.T) {
	pieces := []string{"p", "1", "X", "(", ")", ",", ".", "!", ":-", ":", "-", "pQ", "X_", "_", "\t", "é"}
	blanks := []string{" ", "\n", "%.\n", " % (\n\n "}
	count := 0
	var walk func(text, state string, left int)
	walk = func(text, state string, left int) {
		count++
		_, place, ok := Parse(text)
		if whole := state == "start"; ok != whole || (!whole && place != len(text)) {
			t.Fatalf("Parse(%q) = %d, %t", text, place, ok)
		}
		if left == 0 {
			return
		}
		text += blanks[count%len(blanks)]
		for _, piece := range pieces {
			if behind := next(state, piece); behind != "" {
				walk(text+piece, behind, left-1)
				continue
			}
			if clauses, place, ok := Parse(text + piece + " ? p(a)."); ok || place != len(text) || clauses != nil {
				t.Fatalf("Parse(%q) = %v, %d, %t, want %d", text+piece+" ? p(a).", clauses, place, ok, len(text))
			}
		}
	}
	walk("", "start", 11)
	if count < 1000 {
		t.Errorf("only %d texts were walked through", count)
	}
}

func TestWordKinds(t *testing.T) {
	for word, want := range map[string]kind{
		"a": name, "ab1_": name, "a_": name, "z9": name,
		"1": number, "1a": number, "9_": number,
		"X": variable, "Xa": variable, "XY1": variable, "X1a": variable,
		"X_": wrong, "XY_Z": wrong, "aB": wrong, "1B": wrong, "_": wrong, "_a": wrong, "_A": wrong, "_1": wrong, "a_B": wrong,
	} {
		if got, size := measure(word + ")"); got != want || size != len(word) {
			t.Errorf("measure(%q) = %d, %d, want %d, %d", word, got, size, want, len(word))
		}
	}
}
