package upshot_test

import (
	"strings"
	"testing"
	"unsafe"

	"upshot/api"
	"upshot/upshot"
)

// wanted is a text, and what Load is to answer to it.
type wanted struct {
	text  string
	fault api.Errno
	place int
}

func (w wanted) check(t *testing.T) {
	t.Helper()
	engine, fault, place := upshot.Load(w.text)
	if fault != w.fault || place != w.place {
		t.Errorf("Load(%q) tells error %d, place %d; want %d, %d", w.text, fault, place, w.fault, w.place)
	}
	if (engine == nil) != (fault != api.OK) {
		t.Errorf("Load(%q) tells error %d with the engine %v", w.text, fault, engine)
	}
}

func checkAll(t *testing.T, cases []wanted) {
	t.Helper()
	for _, c := range cases {
		c.check(t)
	}
}

func TestLoadTakesPrograms(t *testing.T) {
	for _, text := range []string{
		"",
		" ",
		"\n",
		"%",
		"% p(\n% q(",
		"p(a).",
		"p(a).q(b).",
		"p(a) :- q(b).",
		"p(X):-q(X),!r(X).",
		"p(a) :- !q(b).",
		"p(0) :- q(9_a), r(a_9, x1, z).",
		"p(Ab1) :- q(Ab1).",
		"a_1(a).",
		"p( a , b ) . q ( X ) :- p ( X , Y ) , ! r ( Y ) .",
		"p\n(\na\n,\nb\n)\n.\nq\n(\nX\n)\n:-\np\n(\nX\n,\nY\n)\n,\n!\nr\n(\nY\n)\n.\n",
		"%0\np%1\n(%2\na%3\n)%4\n:-%5\n!%6\nq%7\n(%8\nb%9\n)%,\n.%.",
		"p(a). %% % a comment \x00\xff\t\r é",
		"q(X) :- n(X), !r(X). r(X) :- m(X). n(1). n(2). m(2).",
		"edge(a,b). edge(b,c). path(X,Y) :- edge(X,Y). path(X,Z) :- path(X,Y), edge(Y,Z).",
		"p(X) :- p(X).",
	} {
		wanted{text, api.OK, 0}.check(t)
	}
}

func TestLoadSize(t *testing.T) {
	fact := "p(a)."
	checkAll(t, []wanted{
		{fact + strings.Repeat(" ", 595), api.OK, 0},
		{fact + strings.Repeat(" ", 596), api.ErrSize, 600},
		{fact + "%" + strings.Repeat("x", 594), api.OK, 0},
		{fact + "%" + strings.Repeat("x", 595), api.ErrSize, 600},
		{strings.Repeat("?", 600), api.ErrSyntax, 0},
		{strings.Repeat("?", 601), api.ErrSize, 600},
		{strings.Repeat("p(a).", 120), api.ErrLimit, 16},
		{strings.Repeat("p(a).", 121), api.ErrSize, 600},
		// Bytes are counted, not runes.
		{"%" + strings.Repeat("é", 299), api.OK, 0},
		{"%" + strings.Repeat("é", 300), api.ErrSize, 600},
		{strings.Repeat("\x00", 1<<20), api.ErrSize, 600},
	})
}

func TestLoadSyntax(t *testing.T) {
	checkAll(t, []wanted{
		{"p(a)", api.ErrSyntax, 4},
		{"p(a) q(b).", api.ErrSyntax, 5},
		{"p().", api.ErrSyntax, 2},
		{"p(aB).", api.ErrSyntax, 2},
		{"P(a).", api.ErrSyntax, 0},
		{"p(a) : q(b).", api.ErrSyntax, 5},
		{"p(a) :- .", api.ErrSyntax, 8},
		// Words that are neither name, variable nor constant.
		{"pQ(a).", api.ErrSyntax, 0},
		{"_(a).", api.ErrSyntax, 0},
		{"p(X_1).", api.ErrSyntax, 2},
		{"p(XY_).", api.ErrSyntax, 2},
		{"p(1X).", api.ErrSyntax, 2},
		{"p(_).", api.ErrSyntax, 2},
		{"p(_X).", api.ErrSyntax, 2},
		{"p(a) :- qR(a).", api.ErrSyntax, 8},
		{"p(aaaaaaaaaaaaaaaaaaaaaaaaaaB).", api.ErrSyntax, 2},
		// Words of another kind than may come.
		{"1(a).", api.ErrSyntax, 0},
		{"1p(a).", api.ErrSyntax, 0},
		{"p(a) :- 2(a).", api.ErrSyntax, 8},
		{"p(a) :- Q(a).", api.ErrSyntax, 8},
		{"p(a) :- !Q(a).", api.ErrSyntax, 9},
		// Terms and what is between them.
		{"p.", api.ErrSyntax, 1},
		{"p a.", api.ErrSyntax, 2},
		{"p((a)).", api.ErrSyntax, 2},
		{"p(,a).", api.ErrSyntax, 2},
		{"p(a,,b).", api.ErrSyntax, 4},
		{"p(a,).", api.ErrSyntax, 4},
		{"p(a b).", api.ErrSyntax, 4},
		{"p(a.", api.ErrSyntax, 3},
		{"p(q(a)).", api.ErrSyntax, 3},
		{"p(!a).", api.ErrSyntax, 2},
		// Heads, bodies and ends of clauses.
		{".", api.ErrSyntax, 0},
		{":- p(a).", api.ErrSyntax, 0},
		{"!p(a).", api.ErrSyntax, 0},
		{"p(a), q(a).", api.ErrSyntax, 4},
		{"p(a)..", api.ErrSyntax, 5},
		{"p(a) :- :- q(a).", api.ErrSyntax, 8},
		{"p(a) :- q(a) :- r(a).", api.ErrSyntax, 13},
		{"p(a) :- , q(a).", api.ErrSyntax, 8},
		{"p(a) :- q(a),.", api.ErrSyntax, 13},
		{"p(a) :- q(a) !r(a).", api.ErrSyntax, 13},
		{"p(a) :- q(a), !!r(a).", api.ErrSyntax, 15},
		{"p(a) :- !.", api.ErrSyntax, 9},
		// A sign of two bytes.
		{"p(a):", api.ErrSyntax, 4},
		{"p(a): -q(a).", api.ErrSyntax, 4},
		{"p(a)-q(a).", api.ErrSyntax, 4},
		{"p(a):%\n-q(a).", api.ErrSyntax, 4},
		// A clause that is not whole: the text's length, with all that stands behind.
		{"p", api.ErrSyntax, 1},
		{"p(", api.ErrSyntax, 2},
		{"p(a", api.ErrSyntax, 3},
		{"p(a,", api.ErrSyntax, 4},
		{"p(a) \n", api.ErrSyntax, 6},
		{"p(a) % . ", api.ErrSyntax, 9},
		{"p(a):-", api.ErrSyntax, 6},
		{"p(a):-!", api.ErrSyntax, 7},
		{"p(a):-q(a)", api.ErrSyntax, 10},
		{"p(a):-q(a), ", api.ErrSyntax, 12},
		{"p(a). q", api.ErrSyntax, 7},
		// The first that can't come counts; blanks and comments ahead of it do too.
		{" \n%x\nP(a). ?", api.ErrSyntax, 5},
		{"p(a). q(?). R", api.ErrSyntax, 8},
		{"p(a b) ?", api.ErrSyntax, 4},
		{"p % (a).\n a).", api.ErrSyntax, 10},
	})
}

// Each byte, where a clause may begin, between two clauses, and within a word.
func TestLoadSyntaxAtEachByte(t *testing.T) {
	for b := range 256 {
		sign := string([]byte{byte(b)})
		alone := wanted{sign, api.ErrSyntax, 0}
		between := wanted{"p(a)." + sign + "q(b).", api.ErrSyntax, 5}
		within := wanted{"p(a" + sign + "b).", api.ErrSyntax, 3}
		switch {
		case 'a' <= b && b <= 'z':
			alone.place = 1
			between.fault, between.place = api.OK, 0
			within.fault, within.place = api.OK, 0
		case 'A' <= b && b <= 'Z':
			within.place = 2
		case '0' <= b && b <= '9', b == '_', b == ',':
			within.fault, within.place = api.OK, 0
		case b == ' ', b == '\n':
			alone.fault = api.OK
			between.fault, between.place = api.OK, 0
			within.place = 4
		case b == '%':
			alone.fault = api.OK
			between.fault, between.place = api.OK, 0
			within.place = len(within.text)
		case b == ')':
			within.place = 4
		}
		checkAll(t, []wanted{alone, between, within})
	}
}

func TestLoadLimits(t *testing.T) {
	sixteen := strings.Repeat("p(a).", 16)
	eight := "a(z).b(z).c(z).d(z).e(z).f(z).g(z).h(z)."
	checkAll(t, []wanted{
		// MaxWord: names, variables and constants, in heads and bodies.
		{"abcdefgh(a).", api.OK, 0},
		{"abcdefghi(a).", api.ErrLimit, 0},
		{"p(a) :- abcdefgh(a).", api.OK, 0},
		{"p(a) :- abcdefghi(a).", api.ErrLimit, 0},
		{"p(a) :- !abcdefgh(a).", api.OK, 0},
		{"p(a) :- !abcdefghi(a).", api.ErrLimit, 0},
		{"p(a,b,12345678).", api.OK, 0},
		{"p(a,b,123456789).", api.ErrLimit, 0},
		{"p(a) :- q(b), r(a_______).", api.OK, 0},
		{"p(a) :- q(b), r(a________).", api.ErrLimit, 0},
		{"p(Abcdefgh) :- q(Abcdefgh).", api.OK, 0},
		{"p(Abcdefghi) :- q(X).", api.ErrLimit, 0},
		{"p(a) :- q(Abcdefgh).", api.OK, 0},
		{"p(a) :- q(Abcdefghi).", api.ErrLimit, 0},
		{"p(a) :- q(Abcdefghi), !r(Abcdefghi).", api.ErrLimit, 0},
		// MaxArity.
		{"p(a,b,c).", api.OK, 0},
		{"p(a,b,c,d).", api.ErrLimit, 0},
		{"p(a) :- q(X,Y,Z).", api.OK, 0},
		{"p(a) :- q(X,Y,Z,Z).", api.ErrLimit, 0},
		{"p(a) :- q(a), !r(a,a,a).", api.OK, 0},
		{"p(a) :- q(a), !r(a,a,a,a).", api.ErrLimit, 0},
		// MaxBody: negated literals count too.
		{"p(a) :- q(a),q(a),q(a),q(a).", api.OK, 0},
		{"p(a) :- q(a),q(a),q(a),q(a),q(a).", api.ErrLimit, 0},
		{"p(a) :- q(a),!r(a),q(a),!r(a).", api.OK, 0},
		{"p(a) :- q(a),!r(a),q(a),!r(a),!r(a).", api.ErrLimit, 0},
		// MaxClauses: facts and rules count.
		{sixteen, api.OK, 0},
		{sixteen + "p(a).", api.ErrLimit, 16},
		{sixteen + "q(a) :- p(a).", api.ErrLimit, 16},
		{sixteen[5:] + "q(a) :- p(a).", api.OK, 0},
		{sixteen + "p(a). p(123456789).", api.ErrLimit, 16},
		// MaxNames: each name once; constants and variables are none.
		{eight, api.OK, 0},
		{eight + "a(y). h(x). b(w).", api.OK, 0},
		{eight + "i(z).", api.ErrLimit, 8},
		{eight + "a(x). b(x). i(z).", api.ErrLimit, 10},
		{eight[5:] + "i(X) :- h(X).", api.OK, 0},
		{eight[5:] + "i(X) :- h(X), !j(X).", api.ErrLimit, 7},
		{eight[5:] + "h(x). i(X) :- h(X), h(X), j(X).", api.ErrLimit, 8},
		{"a(b,c,d). e(f,g,h). i(j,k,l). m(n) :- o(N,O,P), !q(r).", api.OK, 0},
		// The first clause with any of them.
		{"p(a). p(a). p(123456789). p(a,b,c,d).", api.ErrLimit, 2},
		{"p(a). p(a,b,c,d). p(123456789).", api.ErrLimit, 1},
		{eight + "p(123456789).", api.ErrLimit, 8},
		{"p(123456789)." + eight + "p(a).", api.ErrLimit, 0},
	})
}

func TestLoadArity(t *testing.T) {
	checkAll(t, []wanted{
		{"p(a). p(a,b).", api.ErrArity, 1},
		{"p(a,b). p(a).", api.ErrArity, 1},
		{"p(a). q(a,b). p(b). q(b,c).", api.OK, 0},
		{"p(a). q(a,b). p(b). q(b,c,d). p(a,b).", api.ErrArity, 3},
		{"p(a) :- p(a,b).", api.ErrArity, 0},
		{"q(a). p(a) :- r(a), r(a,b).", api.ErrArity, 1},
		{"p(a) :- q(a), !q(a,b).", api.ErrArity, 0},
		{"p(a) :- !q(a). q(a,b).", api.ErrArity, 1},
		{"p(X) :- q(X). q(a) :- p(a,b).", api.ErrArity, 1},
		{"p(a,b,c). p(a,b).", api.ErrArity, 1},
		// A name and a constant that look alike have nothing to do with each other.
		{"p(q). q(p,p).", api.OK, 0},
	})
}

func TestLoadBase(t *testing.T) {
	checkAll(t, []wanted{
		{"p(a). p(X) :- q(X).", api.ErrBase, 0},
		{"p(X) :- q(X). p(a).", api.ErrBase, 1},
		// The number is that of the clause: rules ahead of it count.
		{"p(X) :- q(X). q(a). q(b). p(c). p(d).", api.ErrBase, 3},
		{"q(a). p(X) :- r(X). p(X) :- s(X). r(a). p(b). q(c).", api.ErrBase, 4},
		{"q(a). p(X) :- q(X). r(a).", api.OK, 0},
		{"q(p). p(X) :- q(X).", api.OK, 0},
	})
}

func TestLoadSafe(t *testing.T) {
	checkAll(t, []wanted{
		{"p(X).", api.ErrSafe, 0},
		{"p(a,X,b).", api.ErrSafe, 0},
		{"p(X) :- !q(X).", api.ErrSafe, 0},
		{"p(X) :- q(a).", api.ErrSafe, 0},
		{"p(X) :- q(Y).", api.ErrSafe, 0},
		{"p(a) :- q(Y), !r(X).", api.ErrSafe, 0},
		{"p(a) :- !r(X), !q(X).", api.ErrSafe, 0},
		{"p(a). q(b). r(X) :- p(Y).", api.ErrSafe, 2},
		{"p(X) :- q(X). r(X) :- s(Y). t(Z).", api.ErrSafe, 1},
		// What another clause binds does not count.
		{"p(X) :- q(X). r(a) :- s(a), !t(X).", api.ErrSafe, 1},
		// Variables are told apart byte by byte, and from constants.
		{"p(X1) :- q(X).", api.ErrSafe, 0},
		{"p(XY) :- q(Xy).", api.ErrSafe, 0},
		{"p(X) :- q(x).", api.ErrSafe, 0},
		// What is bound behind the negated atom is bound.
		{"p(a) :- !r(X), q(X).", api.OK, 0},
		{"p(X,Y) :- q(X), r(Y), !s(X,Y).", api.OK, 0},
		{"p(X,Y) :- q(X), !s(X,Y), !r(Y).", api.ErrSafe, 0},
		{"p(a) :- q(X).", api.OK, 0},
		{"p(a) :- !q(a).", api.OK, 0},
		{"p(X) :- p(X).", api.OK, 0},
	})
}

func TestLoadCycle(t *testing.T) {
	checkAll(t, []wanted{
		{"p(X) :- q(X), !p(X).", api.ErrCycle, 0},
		{"p(a) :- !p(b).", api.ErrCycle, 0},
		{"a(z). p(X) :- q(X), !r(X). r(X) :- p(X).", api.ErrCycle, 0},
		{"p(X) :- q(X), !r(X). r(X) :- q(X), !p(X).", api.ErrCycle, 0},
		{"p(X) :- q(X), !r(X). p(X) :- r(X). r(X) :- q(X), p(X).", api.ErrCycle, 0},
		{"a(X):-b(X). b(X):-c(X). c(X):-d(X). d(X):-e(X). e(X):-f(X). f(X):-g(X). g(X):-h(X), !a(X).", api.ErrCycle, 0},
		{"g(X):-h(X), !a(X). f(X):-g(X). e(X):-f(X). d(X):-e(X). c(X):-d(X). b(X):-c(X). a(X):-b(X).", api.ErrCycle, 0},
		// Names that stand above one another, and negated ones that they do not stand below.
		{"p(X) :- r(X). r(X) :- p(X). p(X) :- q(X), !s(X). s(X) :- t(X), !u(X).", api.OK, 0},
		{"p(X) :- q(X), !r(X). r(X) :- r(X). r(X) :- q(X).", api.OK, 0},
		{"p(X) :- q(X), !q(X).", api.OK, 0},
		{"a(X):-b(X). b(X):-c(X). c(X):-d(X). d(X):-e(X). e(X):-f(X). f(X):-g(X). g(X):-h(X), a(X).", api.OK, 0},
	})
}

// All ways in which three names can stand in rules of one another, held against layers that are numbered.
func TestLoadCycleOfThreeNames(t *testing.T) {
	for ways := range 19683 {
		var bonds [3][3]int
		rest := ways
		for i := range 9 {
			bonds[i/3][i%3] = rest % 3
			rest /= 3
		}
		want := wanted{text: bondText(bonds), fault: api.OK}
		if !canNumber(bonds) {
			want.fault = api.ErrCycle
		}
		want.check(t)
	}
}

// bondText writes a rule for each bond: 1 is an atom, 2 a negated one.
func bondText(bonds [3][3]int) string {
	var text strings.Builder
	for head := range 3 {
		for other := range 3 {
			if bonds[head][other] > 0 {
				text.WriteString("pqr"[head:head+1] + "(a):-" + []string{"", "!"}[bonds[head][other]-1] + "pqr"[other:other+1] + "(a).")
			}
		}
	}
	return text.String()
}

// canNumber tells whether the names can have numbers: a head's is not below those of its body, and above negated ones.
func canNumber(bonds [3][3]int) bool {
	var numbers [3]int
	for range 10 {
		changed := false
		for head := range 3 {
			for other := range 3 {
				if least := numbers[other] + bonds[head][other] - 1; bonds[head][other] > 0 && numbers[head] < least {
					numbers[head], changed = least, true
				}
			}
		}
		if !changed {
			return true
		}
	}
	return false
}

// Where several errors apply, the first of the promise is told, whatever stands first in the text.
func TestLoadOrderOfErrors(t *testing.T) {
	parts := []struct {
		text    string
		fault   api.Errno
		clauses int
		number  int // of the clause at fault, among those of the part
	}{
		{"p(c)?", api.ErrSyntax, 1, 0},
		{"l(abcdefghi).", api.ErrLimit, 1, 0},
		{"a(a).a(a,b).", api.ErrArity, 2, 1},
		{"b(X):-c(X).b(a).", api.ErrBase, 2, 1},
		{"c(a).s(X).", api.ErrSafe, 2, 1},
		{"y(X):-c(X),!y(X).", api.ErrCycle, 1, 0},
	}
	for chosen := 1; chosen < 1<<len(parts); chosen++ {
		for _, backwards := range []bool{false, true} {
			want, clauses := wanted{fault: api.ErrFull}, 0
			for i := range parts {
				if backwards {
					i = len(parts) - 1 - i
				}
				if part := parts[i]; chosen>>i&1 == 1 {
					if part.fault < want.fault {
						want.fault, want.place = part.fault, clauses+part.number
					}
					if part.fault == api.ErrSyntax {
						want.place = len(want.text) + 4
					}
					clauses += part.clauses
					want.text += part.text
				}
			}
			if want.fault == api.ErrCycle {
				want.place = 0
			}
			want.check(t)
			wanted{want.text + strings.Repeat(" ", 601-len(want.text)), api.ErrSize, 600}.check(t)
		}
	}
}

// A text cut off or spoiled anywhere gives an answer, and no place outside of it.
func TestLoadAlwaysAnswers(t *testing.T) {
	whole := "q(X) :- n(X), !r(X). % rules\nr(X) :- m(X,1). n(1). n(2). m(2,a_b)."
	for cut := range len(whole) + 1 {
		for b := range 256 {
			for _, text := range []string{whole[:cut] + string([]byte{byte(b)}), whole[:cut] + string([]byte{byte(b)}) + whole[cut:]} {
				engine, fault, place := upshot.Load(text)
				if place < 0 || place > len(text) || (engine == nil) != (fault != api.OK) || (fault == api.OK && place != 0) {
					t.Fatalf("Load(%q) = %v, %d, %d", text, engine, fault, place)
				}
				_, again, there := upshot.Load(text)
				if again != fault || there != place {
					t.Fatalf("Load(%q) tells %d, %d, and then %d, %d", text, fault, place, again, there)
				}
			}
		}
	}
}

func TestLoadKeepsNothingOfTheText(t *testing.T) {
	bytes := []byte("pq(ab,c). pq(ab,d).")
	engine, _, _ := upshot.Load(unsafe.String(&bytes[0], len(bytes)))
	for i := range bytes {
		bytes[i] = 'z'
	}
	if got, want := engine.Dump(), "pq(ab,c).\npq(ab,d).\n"; got != want {
		t.Errorf("Dump() = %q when the text has been written over, want %q", got, want)
	}
}
