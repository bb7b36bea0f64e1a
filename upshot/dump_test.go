package upshot_test

import (
	"slices"
	"strings"
	"testing"

	"upshot/api"
	"upshot/upshot"
)

func load(t *testing.T, text string) *upshot.Engine {
	t.Helper()
	engine, fault, place := upshot.Load(text)
	if fault != api.OK {
		t.Fatalf("Load(%q) tells error %d, place %d", text, fault, place)
	}
	return engine
}

func TestDump(t *testing.T) {
	for _, c := range []struct{ text, want string }{
		{"", ""},
		{"% p(a).", ""},
		{"p(a).", "p(a).\n"},
		{"p ( a , b\n,%\nc ) .", "p(a,b,c).\n"},
		// Each fact once.
		{"p(a). p(a). p(b). p(a).", "p(a).\np(b).\n"},
		// By names first, a beginning ahead of the whole.
		{"q(a). p(b). pq(a). p1(a). p_(a). pa(a).", "p(b).\np1(a).\np_(a).\npa(a).\npq(a).\nq(a).\n"},
		{"z(a). b(a,b,c). m(z,a).", "b(a,b,c).\nm(z,a).\nz(a).\n"},
		// By the first constants, then the second ones, then the third ones.
		{"p(b,a,a). p(a,b,a). p(a,a,b). p(a,a,a). p(a,b,b).", "p(a,a,a).\np(a,a,b).\np(a,b,a).\np(a,b,b).\np(b,a,a).\n"},
		// Constants byte by byte: digits, then _, then letters; no numbers.
		{"p(b). p(a). p(10). p(9). p(1). p(ab). p(a_). p(a0). p(01).", "p(01).\np(1).\np(10).\np(9).\np(a).\np(a0).\np(a_).\np(ab).\np(b).\n"},
		{"p(ab,a). p(a,b). p(a0,c).", "p(a,b).\np(a0,c).\np(ab,a).\n"},
		// Rules by which nothing follows tell nothing.
		{"p(X) :- q(X), r(X). q(a). r(b).", "q(a).\nr(b).\n"},
		{"p(X) :- q(X), !r(X). r(a). q(a).", "q(a).\nr(a).\n"},
		{"p(X) :- p(X).", ""},
	} {
		engine := load(t, c.text)
		for range 3 {
			if got := engine.Dump(); got != c.want {
				t.Errorf("Dump of %q is %q, want %q", c.text, got, c.want)
			}
		}
	}
}

func TestDumpOfTheGreatestProgram(t *testing.T) {
	var facts []string
	for i := range api.MaxClauses {
		letter := string(rune('a' + i))
		facts = append(facts, strings.Repeat(string(rune('a'+i%api.MaxNames)), 8)+"(12345678,"+strings.Repeat(letter, 8)+",a_______).")
	}
	text := strings.Join(facts, "")
	slices.Sort(facts)
	if got, want := load(t, text).Dump(), strings.Join(facts, "\n")+"\n"; got != want {
		t.Errorf("Dump of %q is %q, want %q", text, got, want)
	}
}

// In whatever order the facts come, the Dump is the same.
func TestDumpHangsOnTheFactsAlone(t *testing.T) {
	facts := []string{"p(a,b).", "p(a,c).", "p(b,a).", "q(a).", "r(a,b,c)."}
	want := strings.Join(facts, "\n") + "\n"
	eachOrder(facts, func(order []string) {
		for _, text := range []string{strings.Join(order, ""), strings.Join(order, " % again\n") + order[0] + order[2]} {
			if got := load(t, text).Dump(); got != want {
				t.Errorf("Dump of %q is %q, want %q", text, got, want)
			}
		}
	})
}

// eachOrder calls see with the list in all its orders.
func eachOrder(list []string, see func([]string)) {
	var lay func(size int)
	lay = func(size int) {
		if size == len(list) {
			see(slices.Clone(list))
			return
		}
		for i := size; i < len(list); i++ {
			list[size], list[i] = list[i], list[size]
			lay(size + 1)
			list[size], list[i] = list[i], list[size]
		}
	}
	list = slices.Clone(list)
	lay(0)
}

func TestEnginesAreApart(t *testing.T) {
	first := load(t, "p(a). q(b).")
	second := load(t, "p(c). r(d).")
	if _, fault, _ := upshot.Load("p(e). p("); fault != api.ErrSyntax {
		t.Errorf("Load of half a clause tells %d", fault)
	}
	if got, want := first.Dump(), "p(a).\nq(b).\n"; got != want {
		t.Errorf("the first engine's Dump is %q, want %q", got, want)
	}
	if got, want := second.Dump(), "p(c).\nr(d).\n"; got != want {
		t.Errorf("the second engine's Dump is %q, want %q", got, want)
	}
}
