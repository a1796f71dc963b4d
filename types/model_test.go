package types_test

import (
	"math/rand"
	"slices"
	"strings"

	"innkeeper/api"
)

// row is a row of the chapter's table: an Op, the types of its Kids, and the type that it has then. The types are n (number), m (money) and t (truth).
type row struct {
	op   int
	kids string
	is   byte
}

// rows are all rows, one for each choice of types.
var rows = []row{
	{api.OpNumber, "", 'n'}, {api.OpVar, "", 'n'}, {api.OpMoney, "", 'm'},
	{api.OpAdd, "nn", 'n'}, {api.OpAdd, "mm", 'm'}, {api.OpSub, "nn", 'n'}, {api.OpSub, "mm", 'm'},
	{api.OpMin, "nn", 'n'}, {api.OpMin, "mm", 'm'}, {api.OpMax, "nn", 'n'}, {api.OpMax, "mm", 'm'},
	{api.OpMul, "nn", 'n'}, {api.OpMul, "mn", 'm'}, {api.OpMul, "nm", 'm'},
	{api.OpDiv, "nn", 'n'}, {api.OpDiv, "mn", 'm'},
	{api.OpLess, "nn", 't'}, {api.OpLess, "mm", 't'}, {api.OpEqual, "nn", 't'}, {api.OpEqual, "mm", 't'},
	{api.OpAnd, "tt", 't'}, {api.OpOr, "tt", 't'}, {api.OpNot, "t", 't'},
	{api.OpIf, "tnn", 'n'}, {api.OpIf, "tmm", 'm'}, {api.OpIf, "ttt", 't'},
}

// numberOf returns the number of a type, or 0 for any other letter.
func numberOf(is byte) int {
	return map[byte]int{'n': api.TypeNumber, 'm': api.TypeMoney, 't': api.TypeTruth}[is]
}

// typesOf returns all types that the rows give an expression.
func typesOf(e api.Expr) string {
	var kids []string
	for _, k := range e.Kids {
		kids = append(kids, typesOf(k))
	}
	found := ""
	for _, x := range rows {
		fits := x.op == e.Op && len(x.kids) == len(kids)
		for i := 0; fits && i < len(kids); i++ {
			fits = strings.Contains(kids[i], x.kids[i:i+1])
		}
		if fits && !strings.Contains(found, string(x.is)) {
			found += string(x.is)
		}
	}
	return found
}

// expect returns the type of a well-formed expression, or 0 if it has none.
func expect(e api.Expr) int {
	switch found := typesOf(e); len(found) {
	case 0:
		return 0
	case 1:
		return numberOf(found[0])
	default:
		panic("the types " + found)
	}
}

// least returns how many nodes an expression of a type has at least, and how deep it is then.
func least(is byte) (nodes, depth int) {
	if is == 't' {
		return 3, 2
	}
	return 1, 1
}

// leastOf returns how many nodes an expression by a row has at least, and how deep it is then.
func leastOf(x row) (nodes, depth int) {
	for i := range len(x.kids) {
		n, d := least(x.kids[i])
		nodes, depth = nodes+n, max(depth, d)
	}
	return nodes + 1, depth + 1
}

// typed returns an expression of a type, of up to so many nodes, which is not deeper than said. (There has to be one.)
func typed(r *rand.Rand, is byte, most, deep int) api.Expr {
	var fits []row
	for _, x := range rows {
		if n, d := leastOf(x); x.is == is && n <= most && d <= deep {
			fits = append(fits, x)
		}
	}
	x := fits[r.Intn(len(fits))]
	for range 10 {
		if x.kids == "" && most > 1 {
			x = fits[r.Intn(len(fits))]
		}
	}
	e := api.Expr{Op: x.op, N: someN(r, x.op)}
	n, _ := leastOf(x)
	for i, more := range parted(r, most-n, len(x.kids)) {
		own, _ := least(x.kids[i])
		e.Kids = append(e.Kids, typed(r, x.kids[i], own+more, deep-1))
	}
	return e
}

// parted returns so many numbers whose sum is at most the one that is given; often one of them is all of it, so that expressions get deep.
func parted(r *rand.Rand, sum, many int) []int {
	l := make([]int, many)
	for _, i := range r.Perm(many) {
		l[i] = sum
		if r.Intn(4) == 0 {
			l[i] = r.Intn(sum + 1)
		}
		sum -= l[i]
	}
	return l
}

// someN returns a number that a node of an Op can have.
func someN(r *rand.Rand, o int) int {
	n := []int{0, 1, 2, 4, 100, 999999999, r.Intn(1000000000)}[r.Intn(7)]
	switch o {
	case api.OpNumber:
		return n
	case api.OpMoney:
		return n + r.Intn(2)
	case api.OpVar:
		return 1 + r.Intn(4)
	}
	return 0
}

// someType returns a type.
func someType(r *rand.Rand) byte { return "nmt"[r.Intn(3)] }

// someExpr returns a well-formed expression of up to so many nodes, with a type or without one.
func someExpr(r *rand.Rand, most, deep int) api.Expr {
	var fits []row
	for _, x := range rows {
		if len(x.kids) < most && (deep > 1 || x.kids == "") {
			fits = append(fits, x)
		}
	}
	x := fits[r.Intn(len(fits))]
	e := api.Expr{Op: x.op, N: someN(r, x.op)}
	rest := most - 1 - len(x.kids)
	for range len(x.kids) {
		more := r.Intn(rest + 1)
		rest -= more
		e.Kids = append(e.Kids, someExpr(r, 1+more, deep-1))
	}
	return e
}

// someRate returns a rate that can be used.
func someRate(r *rand.Rand) api.Rate {
	from, least := r.Intn(366), 1+r.Intn(60)
	return api.Rate{
		ID: 1 + r.Intn(1000000), Level: r.Intn(101), Kind: 1 + r.Intn(20),
		Season: api.Span{From: from, Until: from + 1 + r.Intn(366-from)},
		Least:  least, Most: least + r.Intn(61-least), Arrive: 1 + r.Intn(127),
		Keep: []api.Rat{{N: 0, D: 1}, {N: 1, D: 1}, {N: 1, D: 2}, {N: 2, D: 3}, {N: 99, D: 100}, {N: 1, D: 1000000}, {N: 999999, D: 1000000}}[r.Intn(7)],
		When: typed(r, 't', 3+r.Intn(20), 30), Price: typed(r, 'm', 1+r.Intn(20), 30),
	}
}

// copyOf returns an expression that shares no memory with the first one.
func copyOf(e api.Expr) api.Expr {
	kids := e.Kids
	e.Kids = nil
	for _, k := range kids {
		e.Kids = append(e.Kids, copyOf(k))
	}
	return e
}

// nodesOf returns all nodes of an expression, which can be changed there.
func nodesOf(e *api.Expr) []*api.Expr {
	l := []*api.Expr{e}
	for i := range e.Kids {
		l = append(l, nodesOf(&e.Kids[i])...)
	}
	return l
}

// depthOf returns the depth of an expression.
func depthOf(e api.Expr) int {
	most := 0
	for _, k := range e.Kids {
		most = max(most, depthOf(k))
	}
	return 1 + most
}

// same reports whether two expressions are equal; it makes no difference whether Kids are nil or empty.
func same(a, b api.Expr) bool {
	return a.Op == b.Op && a.N == b.N && slices.EqualFunc(a.Kids, b.Kids, same)
}

// sameRate reports whether two rates are equal.
func sameRate(a, b api.Rate) bool {
	fine := same(a.When, b.When) && same(a.Price, b.Price)
	return fine && a.ID == b.ID && a.Level == b.Level && a.Kind == b.Kind && a.Season == b.Season && a.Least == b.Least && a.Most == b.Most && a.Arrive == b.Arrive && a.Keep == b.Keep
}
