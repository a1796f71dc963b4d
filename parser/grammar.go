package parser

import (
	"innkeeper/api"
	"innkeeper/ratio"
)

// Levels of the grammar at which there are operators.
const (
	levelAny = iota
	levelAll
	levelCompared
	levelSum
	levelProduct
	levelAtom
)

// percent is the number of which a percentage says so many parts.
const percent = 100

// operator is the text of an operator, at its level.
type operator struct {
	level int
	text  string
}

// operators returns the Ops of operators.
func operators() map[operator]int {
	return map[operator]int{
		{levelAny, "or"}:     api.OpOr,
		{levelAll, "and"}:    api.OpAnd,
		{levelCompared, "<"}: api.OpLess,
		{levelCompared, "="}: api.OpEqual,
		{levelSum, "+"}:      api.OpAdd,
		{levelSum, "-"}:      api.OpSub,
		{levelProduct, "*"}:  api.OpMul,
		{levelProduct, "/"}:  api.OpDiv,
		{levelAtom, "min"}:   api.OpMin,
		{levelAtom, "max"}:   api.OpMax,
	}
}

// variable returns the number of a variable, or 0.
func variable(text string) int {
	switch text {
	case "nights":
		return api.VarNights
	case "persons":
		return api.VarPersons
	case "night":
		return api.VarNight
	case "weekday":
		return api.VarWeekday
	}
	return 0
}

// rates reads a source of rates.
func (p *parser) rates() []api.Rate {
	var l []api.Rate
	for !p.ended() {
		line := p.next().Line
		p.need("rate")
		if len(l) == api.MaxRates {
			panic(fault{api.ErrLimit, line})
		}
		r := p.rate()
		if !Valid(r.When) || !Valid(r.Price) {
			panic(fault{api.ErrArg, line})
		}
		l = append(l, r)
	}
	return l
}

// rate reads a rate, from after its first word on.
func (p *parser) rate() api.Rate {
	// Calls in a literal are made in the order in which they stand there.
	r := api.Rate{
		ID:     p.number(),
		Level:  p.after("level"),
		Kind:   p.after("kind"),
		Season: api.Span{From: p.after("nights"), Until: p.after("to")},
		Least:  p.after("stay"),
		Most:   p.after("to"),
		Arrive: p.after("arrive"),
		Keep:   p.keep(),
	}
	p.need("when")
	r.When = p.expression()
	p.need("price")
	r.Price = p.expression()
	p.need(";")
	return r
}

// keep reads which part is kept.
func (p *parser) keep() api.Rat {
	n := p.after("keep")
	p.need("%")
	// There is such a ratio for each number that a token can say.
	part, _ := ratio.Make(n, percent)
	return part
}

// alone reads an expression, after which there is nothing else.
func (p *parser) alone() api.Expr {
	e := p.expression()
	if !p.ended() {
		p.refuse()
	}
	return e
}

// expression reads an expression.
func (p *parser) expression() api.Expr {
	if !p.is("if") {
		return p.any()
	}
	first := p.expression()
	p.need("then")
	second := p.expression()
	p.need("else")
	return node(api.OpIf, first, second, p.expression())
}

// any reads an expression that does not begin with a choice.
func (p *parser) any() api.Expr {
	return p.row(levelAny, p.all)
}

// all reads what can stand on either side of an or.
func (p *parser) all() api.Expr {
	return p.row(levelAll, p.none)
}

// none reads what can stand on either side of an and.
func (p *parser) none() api.Expr {
	if p.is("not") {
		return node(api.OpNot, p.none())
	}
	return p.compared()
}

// compared reads a sum, or a comparison of two: a comparison cannot be compared again.
func (p *parser) compared() api.Expr {
	first := p.sum()
	op, there := p.operator(levelCompared)
	if !there {
		return first
	}
	return node(op, first, p.sum())
}

// sum reads what can stand on either side of a comparison.
func (p *parser) sum() api.Expr {
	return p.row(levelSum, p.product)
}

// product reads what can stand on either side of a plus or minus.
func (p *parser) product() api.Expr {
	return p.row(levelProduct, p.atom)
}

// row reads one or more expressions, each of them by next, with operators of a level between them.
func (p *parser) row(level int, next func() api.Expr) api.Expr {
	e := next()
	for {
		op, there := p.operator(level)
		if !there {
			return e
		}
		e = node(op, e, next())
	}
}

// operator reads an operator of a level, if there is one.
func (p *parser) operator(level int) (int, bool) {
	op, there := p.operators[operator{level, p.next().Text}]
	if there {
		p.read++
	}
	return op, there
}

// atom reads what has operators in it only between brackets.
func (p *parser) atom() api.Expr {
	if op, there := p.operator(levelAtom); there {
		return p.pair(op)
	}
	if p.is("(") {
		e := p.expression()
		p.need(")")
		return e
	}
	e := leaf(p.next())
	if e.Op == 0 {
		p.refuse()
	}
	p.read++
	return e
}

// pair reads the two expressions in brackets that stand after an operator.
func (p *parser) pair(op int) api.Expr {
	p.need("(")
	first := p.expression()
	p.need(",")
	second := p.expression()
	p.need(")")
	return node(op, first, second)
}

// node returns an expression that has parts.
func node(op int, kids ...api.Expr) api.Expr {
	return api.Expr{Op: op, Kids: kids}
}

// leaf returns the expression of a single token; if it is none, this has no Op.
func leaf(t api.Token) api.Expr {
	switch t.Kind {
	case api.TokNumber:
		return api.Expr{Op: api.OpNumber, N: digits(t.Text)}
	case api.TokMoney:
		return api.Expr{Op: api.OpMoney, N: digits(t.Text)}
	}
	if n := variable(t.Text); n > 0 {
		return api.Expr{Op: api.OpVar, N: n}
	}
	return api.Expr{}
}
