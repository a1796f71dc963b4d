package printer

import (
	"strconv"
	"strings"

	"innkeeper/api"
	"innkeeper/money"
)

// operator is how expressions of an Op are written. What has a greater rank is read before; a digit in the shape stands for the next one of Kids, which has brackets if its rank is less than the digit.
type operator struct {
	rank  int
	shape string
}

// operators are those of all Ops, by their number.
var operators = [...]operator{
	api.OpNumber: {rank: 7},
	api.OpMoney:  {rank: 7},
	api.OpVar:    {rank: 7},
	api.OpAdd:    {5, "5 + 6"},
	api.OpSub:    {5, "5 - 6"},
	api.OpMul:    {6, "6 * 7"},
	api.OpDiv:    {6, "6 / 7"},
	api.OpMin:    {7, "min(0, 0)"},
	api.OpMax:    {7, "max(0, 0)"},
	api.OpIf:     {0, "if 0 then 0 else 0"},
	api.OpLess:   {4, "5 < 5"},
	api.OpEqual:  {4, "5 = 5"},
	api.OpAnd:    {2, "2 and 3"},
	api.OpOr:     {1, "1 or 2"},
	api.OpNot:    {3, "not 3"},
}

// variables are the names of variables, by their number.
var variables = [...]string{
	api.VarNights:  "nights",
	api.VarPersons: "persons",
	api.VarNight:   "night",
	api.VarWeekday: "weekday",
}

// writer builds a text.
type writer struct{ strings.Builder }

// join writes parts after what there is, with a blank between each two.
func (w *writer) join(parts ...string) {
	for _, p := range parts {
		if w.Len() > 0 {
			w.WriteByte(' ')
		}
		w.WriteString(p)
	}
}

// expression writes an expression, which is well-formed.
func (w *writer) expression(e api.Expr) {
	switch e.Op {
	case api.OpNumber:
		w.WriteString(strconv.Itoa(e.N))
	case api.OpMoney:
		// The cents of a well-formed expression always have a text.
		text, _ := money.Text(e.N)
		w.WriteString(text)
	case api.OpVar:
		w.WriteString(variables[e.N])
	default:
		w.operation(operators[e.Op].shape, e.Kids)
	}
}

// operation writes the shape of an operator, with kids where its digits stand.
func (w *writer) operation(shape string, kids []api.Expr) {
	for _, c := range shape {
		if c < '0' || c > '9' {
			w.WriteRune(c)
			continue
		}
		w.kid(kids[0], int(c-'0'))
		kids = kids[1:]
	}
}

// kid writes an expression, in brackets if its rank is less than the one that is wanted.
func (w *writer) kid(e api.Expr, least int) {
	if operators[e.Op].rank >= least {
		w.expression(e)
		return
	}
	w.WriteByte('(')
	w.expression(e)
	w.WriteByte(')')
}
