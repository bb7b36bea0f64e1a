// Package syntax reads a program's text: its pieces, and the clauses that they make.
package syntax

// Term is a variable or a constant.
type Term struct {
	Text     string
	Variable bool
}

// Atom is a name and its terms.
type Atom struct {
	Name  string
	Terms []Term
}

// Literal is an atom of a body.
type Literal struct {
	Atom
	Negated bool
}

// Clause is a head and a body; a fact's body is empty.
type Clause struct {
	Head Atom
	Body []Literal
}

// IsFact tells whether the clause has no body.
func (c Clause) IsFact() bool { return len(c.Body) == 0 }

// Atoms lists the atoms of the clause as they stand in it, the head first.
func (c Clause) Atoms() []Atom {
	atoms := []Atom{c.Head}
	for _, literal := range c.Body {
		atoms = append(atoms, literal.Atom)
	}
	return atoms
}

// Parse gives the clauses of a text and true; or none, the place of what can't stand there, and false.
func Parse(text string) ([]Clause, int, bool) {
	p := parser{text: text, ahead: pieceFrom(text, 0)}
	var clauses []Clause
	for p.ahead.kind != nothing {
		clause, ok := p.clause()
		if !ok {
			return nil, p.ahead.at, false
		}
		clauses = append(clauses, clause)
	}
	return clauses, 0, true
}

// parser goes through a text piece by piece. It takes a piece only where it may come,
// so when one of its methods answers false, the piece ahead is the first that may not.
type parser struct {
	text  string
	ahead piece
}

// take steps over the piece ahead if it is of the kind that is asked for.
func (p *parser) take(k kind) bool {
	if p.ahead.kind != k {
		return false
	}
	p.ahead = pieceFrom(p.text, p.ahead.at+len(p.ahead.text))
	return true
}

func (p *parser) clause() (Clause, bool) {
	head, ok := p.atom()
	if !ok {
		return Clause{}, false
	}
	var body []Literal
	if p.take(when) {
		if body, ok = p.body(); !ok {
			return Clause{}, false
		}
	}
	return Clause{Head: head, Body: body}, p.take(stop)
}

func (p *parser) body() ([]Literal, bool) {
	var body []Literal
	for {
		negated := p.take(not)
		atom, ok := p.atom()
		if !ok {
			return nil, false
		}
		body = append(body, Literal{Atom: atom, Negated: negated})
		if !p.take(comma) {
			return body, true
		}
	}
}

func (p *parser) atom() (Atom, bool) {
	atom := Atom{Name: p.ahead.text}
	if !p.take(name) || !p.take(open) {
		return Atom{}, false
	}
	for {
		term, ok := p.term()
		if !ok {
			return Atom{}, false
		}
		atom.Terms = append(atom.Terms, term)
		if !p.take(comma) {
			return atom, p.take(shut)
		}
	}
}

func (p *parser) term() (Term, bool) {
	text := p.ahead.text
	if p.take(variable) {
		return Term{Text: text, Variable: true}, true
	}
	return Term{Text: text}, p.take(name) || p.take(number)
}
