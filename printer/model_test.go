package printer_test

import (
	"fmt"
	"math/rand"
	"slices"
	"strings"

	"innkeeper/api"
)

// ranks are the Ops of each rank, as the chapter says them; all others have the rank 7.
var ranks = [][]int{
	{api.OpIf},
	{api.OpOr},
	{api.OpAnd},
	{api.OpNot},
	{api.OpLess, api.OpEqual},
	{api.OpAdd, api.OpSub},
	{api.OpMul, api.OpDiv},
}

// rank returns the rank of an expression.
func rank(e api.Expr) int {
	for i, l := range ranks {
		if slices.Contains(l, e.Op) {
			return i
		}
	}
	return 7
}

// wanted returns the ranks below which the Kids of an Op stand in brackets.
func wanted(o int) []int {
	switch o {
	case api.OpMin, api.OpMax:
		return []int{0, 0}
	case api.OpIf:
		return []int{0, 0, 0}
	case api.OpOr:
		return []int{1, 2}
	case api.OpAnd:
		return []int{2, 3}
	case api.OpNot:
		return []int{3}
	case api.OpLess, api.OpEqual:
		return []int{5, 5}
	case api.OpAdd, api.OpSub:
		return []int{5, 6}
	case api.OpMul, api.OpDiv:
		return []int{6, 7}
	}
	return nil
}

// formats are the texts of Ops that have Kids.
var formats = map[int]string{
	api.OpMin:   "min(%s, %s)",
	api.OpMax:   "max(%s, %s)",
	api.OpIf:    "if %s then %s else %s",
	api.OpOr:    "%s or %s",
	api.OpAnd:   "%s and %s",
	api.OpNot:   "not %s",
	api.OpLess:  "%s < %s",
	api.OpEqual: "%s = %s",
	api.OpAdd:   "%s + %s",
	api.OpSub:   "%s - %s",
	api.OpMul:   "%s * %s",
	api.OpDiv:   "%s / %s",
}

// written returns a source of an expression, with brackets around each part of which within says so.
func written(e api.Expr, within func(k api.Expr, least int) bool) string {
	switch e.Op {
	case api.OpNumber:
		return fmt.Sprint(e.N)
	case api.OpMoney:
		return fmt.Sprintf("%d.%02d", e.N/100, e.N%100)
	case api.OpVar:
		return []string{"nights", "persons", "night", "weekday"}[e.N-1]
	}
	var parts []any
	for i, least := range wanted(e.Op) {
		s := written(e.Kids[i], within)
		if within(e.Kids[i], least) {
			s = "(" + s + ")"
		}
		parts = append(parts, s)
	}
	return fmt.Sprintf(formats[e.Op], parts...)
}

// low reports whether the rank of a part is too low to stand without brackets.
func low(k api.Expr, least int) bool { return rank(k) < least }

// expect returns the text of an expression.
func expect(e api.Expr) string { return written(e, low) }

// expectRate returns the text of a rate that keeps so many percent.
func expectRate(r api.Rate, percent int) string {
	return fmt.Sprintf("rate %d level %d kind %d nights %d to %d stay %d to %d arrive %d keep %d%% when %s price %s;",
		r.ID, r.Level, r.Kind, r.Season.From, r.Season.Until, r.Least, r.Most, r.Arrive, percent, expect(r.When), expect(r.Price))
}

// generous returns a source of an expression, with brackets where nothing needs them, blanks, line feeds and comments.
func generous(r *rand.Rand, e api.Expr) string {
	s := written(e, func(k api.Expr, least int) bool { return low(k, least) || r.Intn(4) == 0 })
	if r.Intn(3) == 0 {
		s = "((" + s + "))"
	}
	return spaced(r, s)
}

// spaced returns a source with other things between its tokens than blanks, and with nothing where nothing has to be.
func spaced(r *rand.Rand, s string) string {
	var b strings.Builder
	words := strings.Split(s, " ")
	for i, w := range words {
		b.WriteString(w)
		if i+1 == len(words) {
			break
		}
		needless := strings.ContainsAny(w[len(w)-1:]+words[i+1][:1], "()+-*/<=,%;")
		if !needless || r.Intn(2) == 0 {
			b.WriteString([]string{" ", "  ", "\n", " # or 1\n", "\n\n "}[r.Intn(5)])
		}
	}
	return b.String()
}

// someExpr returns a well-formed expression of up to so many nodes.
func someExpr(r *rand.Rand, most int) api.Expr {
	return grow(r, most, 30)
}

// grow returns an expression of up to so many nodes, which is not deeper than said.
func grow(r *rand.Rand, most, deep int) api.Expr {
	if most < 2 || deep == 1 {
		return someLeaf(r)
	}
	o := 4 + r.Intn(12)
	many := len(wanted(o))
	if many >= most {
		o, many = api.OpNot, 1
	}
	rest := most - 1
	e := op(o)
	for i := range many {
		n := rest - (many - 1 - i)
		if i < many-1 {
			n = 1 + r.Intn(n)*r.Intn(2)
		}
		e.Kids = append(e.Kids, grow(r, n, deep-1))
		rest -= n
	}
	return e
}

// someLeaf returns an expression without Kids.
func someLeaf(r *rand.Rand) api.Expr {
	n := []int{0, 1, 2, 9, 10, 99, 100, 101, 999999999, r.Intn(1000000000)}[r.Intn(10)]
	return []api.Expr{number(n), amount(n), amount(1000000000), variable(1 + r.Intn(4)), variable(1 + r.Intn(4))}[r.Intn(5)]
}

// someNumber returns a number that a source can say.
func someNumber(r *rand.Rand) int {
	return []int{0, 1, 9, 10, 100, 366, 999999999, r.Intn(100), r.Intn(1000000000)}[r.Intn(9)]
}

// someRate returns a rate that can be written, and how many percent it keeps.
func someRate(r *rand.Rand, most int) (api.Rate, int) {
	percent := someNumber(r)
	return api.Rate{
		ID: someNumber(r), Level: someNumber(r), Kind: someNumber(r), Season: api.Span{From: someNumber(r), Until: someNumber(r)},
		Least: someNumber(r), Most: someNumber(r), Arrive: someNumber(r), Keep: hundredth(percent),
		When: someExpr(r, 1+r.Intn(most)), Price: someExpr(r, 1+r.Intn(most)),
	}, percent
}

// hundredth returns the ratio of a number and 100.
func hundredth(n int) api.Rat {
	d := 100
	for _, p := range []int{2, 2, 5, 5} {
		if n%p == 0 && d%p == 0 {
			n, d = n/p, d/p
		}
	}
	return api.Rat{N: n, D: d}
}

// nodes returns all nodes of an expression.
func nodes(e api.Expr) []api.Expr {
	l := []api.Expr{e}
	for _, k := range e.Kids {
		l = append(l, nodes(k)...)
	}
	return l
}

// depth returns the depth of an expression.
func depth(e api.Expr) int {
	most := 0
	for _, k := range e.Kids {
		most = max(most, depth(k))
	}
	return 1 + most
}
