package printer_test

import (
	"fmt"
	"math"
	"slices"
	"strings"
	"testing"

	"innkeeper/api"
	"innkeeper/printer"
)

// The expressions without Kids, and those with some.
func number(n int) api.Expr                { return api.Expr{Op: api.OpNumber, N: n} }
func amount(n int) api.Expr                { return api.Expr{Op: api.OpMoney, N: n} }
func variable(n int) api.Expr              { return api.Expr{Op: api.OpVar, N: n} }
func op(op int, kids ...api.Expr) api.Expr { return api.Expr{Op: op, Kids: kids} }

// same reports whether two expressions are equal; it makes no difference whether Kids are nil or empty.
func same(a, b api.Expr) bool {
	return a.Op == b.Op && a.N == b.N && slices.EqualFunc(a.Kids, b.Kids, same)
}

// show returns the beginning of what a value looks like.
func show(x any) string { return fmt.Sprintf("%.400s", fmt.Sprint(x)) }

// wantText checks the text of an expression.
func wantText(t *testing.T, e api.Expr, want string) {
	t.Helper()
	if got, f := printer.Expr(e); got != want || f != api.OK {
		t.Errorf("Expr(%s) = %q, %v; want %q", show(e), got, f, want)
	}
}

// wantNoText checks that an expression has no text.
func wantNoText(t *testing.T, e api.Expr) {
	t.Helper()
	if got, f := printer.Expr(e); got != "" || f != api.ErrArg {
		t.Errorf("Expr(%s) = %q, %v; want %v", show(e), got, f, api.ErrArg)
	}
}

// wantRate checks the text of a rate.
func wantRate(t *testing.T, r api.Rate, want string) {
	t.Helper()
	if got, e := printer.Rate(r); got != want || e != api.OK {
		t.Errorf("Rate(%s) = %q, %v; want %q", show(r), got, e, want)
	}
}

// wantNoRate checks that a rate has no text.
func wantNoRate(t *testing.T, r api.Rate) {
	t.Helper()
	if got, e := printer.Rate(r); got != "" || e != api.ErrArg {
		t.Errorf("Rate(%s) = %q, %v; want %v", show(r), got, e, api.ErrArg)
	}
}

// TestLeaves checks P9.1 for I1: numbers, amounts and variables, the least and the greatest ones among them.
func TestLeaves(t *testing.T) {
	for n, want := range map[int]string{0: "0", 1: "1", 9: "9", 10: "10", 100: "100", 366: "366", 1000000: "1000000", 999999999: "999999999"} {
		wantText(t, number(n), want)
	}
	for n, want := range map[int]string{0: "0.00", 1: "0.01", 10: "0.10", 99: "0.99", 100: "1.00", 105: "1.05", 1050: "10.50", 100000: "1000.00", 999999999: "9999999.99", 1000000000: "10000000.00"} {
		wantText(t, amount(n), want)
	}
	for i, want := range []string{"nights", "persons", "night", "weekday"} {
		wantText(t, variable(i+1), want)
	}
	wantText(t, api.Expr{Op: api.OpNumber, N: 7, Kids: []api.Expr{}}, "7")
}

// TestOperators checks P9.1 for I1: the text of each operator, with parts that need no brackets.
func TestOperators(t *testing.T) {
	one, two, three := number(1), number(2), number(3)
	for o, want := range map[int]string{
		api.OpAdd: "1 + 2", api.OpSub: "1 - 2", api.OpMul: "1 * 2", api.OpDiv: "1 / 2", api.OpLess: "1 < 2", api.OpEqual: "1 = 2",
		api.OpAnd: "1 and 2", api.OpOr: "1 or 2", api.OpMin: "min(1, 2)", api.OpMax: "max(1, 2)",
	} {
		wantText(t, op(o, one, two), want)
	}
	wantText(t, op(api.OpNot, one), "not 1")
	wantText(t, op(api.OpIf, one, two, three), "if 1 then 2 else 3")
	wantText(t, op(api.OpIf, variable(1), amount(5), variable(4)), "if nights then 0.05 else weekday")
	wantText(t, op(api.OpMax, amount(0), variable(2)), "max(0.00, persons)")
}

// TestBrackets checks P9.1 for I1, and P9.5: the chapter's examples, and where brackets stand and where not.
func TestBrackets(t *testing.T) {
	one, two, three := number(1), number(2), number(3)
	day := func(n int) api.Expr { return op(api.OpEqual, variable(4), number(n)) }
	choice := op(api.OpIf, one, two, three)
	for want, e := range map[string]api.Expr{
		"(nights + 2) * 10.50": op(api.OpMul, op(api.OpAdd, variable(1), two), amount(1050)),
		"1 - (2 - 3)":          op(api.OpSub, one, op(api.OpSub, two, three)),
		"not persons < 2":      op(api.OpNot, op(api.OpLess, variable(2), two)),
		"(weekday = 1 or weekday = 2) and weekday = 3": op(api.OpAnd, op(api.OpOr, day(1), day(2)), day(3)),
		"1 - 2 - 3":                       op(api.OpSub, op(api.OpSub, one, two), three),
		"1 / (2 * 3)":                     op(api.OpDiv, one, op(api.OpMul, two, three)),
		"1 / 2 * 3":                       op(api.OpMul, op(api.OpDiv, one, two), three),
		"1 + 2 * 3":                       op(api.OpAdd, one, op(api.OpMul, two, three)),
		"1 or (2 or 3)":                   op(api.OpOr, one, op(api.OpOr, two, three)),
		"1 or 2 or 3":                     op(api.OpOr, op(api.OpOr, one, two), three),
		"1 or 2 and 3":                    op(api.OpOr, one, op(api.OpAnd, two, three)),
		"1 and (2 and 3)":                 op(api.OpAnd, one, op(api.OpAnd, two, three)),
		"not 1 and not 2":                 op(api.OpAnd, op(api.OpNot, one), op(api.OpNot, two)),
		"not (1 and 2)":                   op(api.OpNot, op(api.OpAnd, one, two)),
		"not not 1":                       op(api.OpNot, op(api.OpNot, one)),
		"(1 < 2) = (2 < 3)":               op(api.OpEqual, op(api.OpLess, one, two), op(api.OpLess, two, three)),
		"(not 1) < (not 2)":               op(api.OpLess, op(api.OpNot, one), op(api.OpNot, two)),
		"1 + 2 < 2 - 3":                   op(api.OpLess, op(api.OpAdd, one, two), op(api.OpSub, two, three)),
		"(1 < 2) + (2 = 3)":               op(api.OpAdd, op(api.OpLess, one, two), op(api.OpEqual, two, three)),
		"min(1, 2) * max(2, 3)":           op(api.OpMul, op(api.OpMin, one, two), op(api.OpMax, two, three)),
		"min(1 or 2, if 1 then 2 else 3)": op(api.OpMin, op(api.OpOr, one, two), choice),
		"(if 1 then 2 else 3) or (if 1 then 2 else 3)":   op(api.OpOr, choice, choice),
		"not (if 1 then 2 else 3)":                       op(api.OpNot, choice),
		"if if 1 then 2 else 3 then 2 else 3":            op(api.OpIf, choice, two, three),
		"if 1 then if 1 then 2 else 3 else 3":            op(api.OpIf, one, choice, three),
		"if 1 then 2 else if 1 then 2 else 3":            op(api.OpIf, one, two, choice),
		"if 1 or 2 then not 3 else 1 + (2 + 3)":          op(api.OpIf, op(api.OpOr, one, two), op(api.OpNot, three), op(api.OpAdd, one, op(api.OpAdd, two, three))),
		"(((1 or 2) and 3) + 1) * 2 < 3":                 op(api.OpLess, op(api.OpMul, op(api.OpAdd, op(api.OpAnd, op(api.OpOr, one, two), three), one), two), three),
		"max(min(1, 2), 3)":                              op(api.OpMax, op(api.OpMin, one, two), three),
		"10.00 * (nights - 1) / (persons + (night - 2))": op(api.OpDiv, op(api.OpMul, amount(1000), op(api.OpSub, variable(1), one)), op(api.OpAdd, variable(2), op(api.OpSub, variable(3), two))),
	} {
		wantText(t, e, want)
	}
}

// chain returns a sum of so many ones, which is as deep, and its text.
func chain(n int) (api.Expr, string) {
	e := number(1)
	for range n - 1 {
		e = op(api.OpAdd, e, number(1))
	}
	return e, strings.Repeat("1 + ", n-1) + "1"
}

// wide returns an expression with so many nodes, none of them deeper than it has to be.
func wide(nodes int) api.Expr {
	switch nodes {
	case 1:
		return number(1)
	case 2:
		return op(api.OpNot, number(1))
	}
	return op(api.OpMin, wide((nodes-1)/2), wide(nodes/2))
}

// TestSizes checks P9.1 for I1: as deep, and as many nodes, as can be, and one more.
func TestSizes(t *testing.T) {
	for _, deep := range []int{1, 2, 29, 30, 31, 32, 100} {
		e, want := chain(deep)
		if deep > 30 {
			wantNoText(t, e)
		} else {
			wantText(t, e, want)
		}
	}
	for _, many := range []int{1, 2, 3, 199, 200, 201, 202, 400} {
		e := wide(many)
		if many > 200 {
			wantNoText(t, e)
		} else {
			wantText(t, e, expect(e))
		}
	}
}

// TestNoExpr checks P9.1 for I1 with expressions that are not well-formed, and those that have one of them in it.
func TestNoExpr(t *testing.T) {
	one := number(1)
	for _, bad := range []api.Expr{
		{}, {Op: -1}, {Op: 16}, {Op: math.MinInt}, {Op: math.MaxInt}, {Op: 16, Kids: []api.Expr{one, one}}, {N: 1},
		number(-1), number(1000000000), number(math.MaxInt), number(math.MinInt), op(api.OpNumber, one),
		amount(-1), amount(1000000001), amount(math.MaxInt), amount(math.MinInt), op(api.OpMoney, one),
		variable(-1), variable(0), variable(5), variable(math.MaxInt), {Op: api.OpVar, N: 1, Kids: []api.Expr{one}},
		op(api.OpAdd), op(api.OpSub, one), op(api.OpMul, one, one, one), op(api.OpMin, one), op(api.OpMax), op(api.OpIf, one, one), op(api.OpIf, one, one, one, one),
		op(api.OpNot), op(api.OpNot, one, one), op(api.OpAnd, one), op(api.OpOr, one, one, one), op(api.OpLess, one), op(api.OpEqual),
		{Op: api.OpAdd, N: 1, Kids: []api.Expr{one, one}}, {Op: api.OpNot, N: -1, Kids: []api.Expr{one}}, {Op: api.OpIf, N: 1, Kids: []api.Expr{one, one, one}},
	} {
		wantNoText(t, bad)
		wantNoText(t, op(api.OpNot, bad))
		wantNoText(t, op(api.OpAdd, one, bad))
		wantNoText(t, op(api.OpIf, bad, one, one))
		for _, r := range []api.Rate{{When: bad, Price: one}, {When: one, Price: bad}, {When: op(api.OpNot, bad), Price: bad}} {
			r.Keep = api.Rat{N: 0, D: 1}
			wantNoRate(t, r)
		}
	}
}

// example is the rate of chapter 8's example, and its text.
func example() (api.Rate, string) {
	return api.Rate{
		ID: 7, Level: 1, Kind: 2, Season: api.Span{From: 10, Until: 40}, Least: 2, Most: 9, Arrive: 127, Keep: api.Rat{N: 1, D: 2},
		When:  op(api.OpLess, variable(1), number(5)),
		Price: op(api.OpAdd, amount(10000), op(api.OpMul, amount(2000), variable(2))),
	}, "rate 7 level 1 kind 2 nights 10 to 40 stay 2 to 9 arrive 127 keep 50% when nights < 5 price 100.00 + 20.00 * persons;"
}

// TestRate checks P9.1 for I2: the example, a rate whose numbers are all different, and the least and greatest ones.
func TestRate(t *testing.T) {
	r, want := example()
	wantRate(t, r, want)
	wantRate(t, api.Rate{
		ID: 1, Level: 2, Kind: 3, Season: api.Span{From: 4, Until: 5}, Least: 6, Most: 7, Arrive: 8, Keep: api.Rat{N: 9, D: 100}, When: number(10), Price: amount(11),
	}, "rate 1 level 2 kind 3 nights 4 to 5 stay 6 to 7 arrive 8 keep 9% when 10 price 0.11;")
	wantRate(t, api.Rate{Keep: api.Rat{N: 0, D: 1}, When: number(0), Price: amount(0)}, "rate 0 level 0 kind 0 nights 0 to 0 stay 0 to 0 arrive 0 keep 0% when 0 price 0.00;")
	const most = 999999999
	wantRate(t, api.Rate{
		ID: most, Level: most, Kind: most, Season: api.Span{From: most, Until: most}, Least: most, Most: most, Arrive: most, Keep: api.Rat{N: most, D: 100}, When: number(most), Price: amount(most + 1),
	}, "rate 999999999 level 999999999 kind 999999999 nights 999999999 to 999999999 stay 999999999 to 999999999 arrive 999999999 keep 999999999% when 999999999 price 10000000.00;")
	// Seasons and lengths need not be in order, and expressions need no brackets in a rate.
	r.Season, r.Least, r.Most = api.Span{From: 40, Until: 10}, 9, 2
	r.When = op(api.OpOr, op(api.OpIf, number(1), number(2), number(3)), number(4))
	r.Price = op(api.OpIf, number(1), amount(2), amount(3))
	wantRate(t, r, "rate 7 level 1 kind 2 nights 40 to 10 stay 9 to 2 arrive 127 keep 50% when (if 1 then 2 else 3) or 4 price if 1 then 0.02 else 0.03;")
}

// TestNumbers checks P9.1 for I2: each number of a rate is from 0 to 999999999.
func TestNumbers(t *testing.T) {
	for i := range 8 {
		for _, n := range []int{math.MinInt, -1000000000, -1, 0, 1, 999999998, 999999999, 1000000000, 1 << 32, math.MaxInt} {
			r, _ := example()
			at := []*int{&r.ID, &r.Level, &r.Kind, &r.Season.From, &r.Season.Until, &r.Least, &r.Most, &r.Arrive}[i]
			*at = n
			if n < 0 || n > 999999999 {
				wantNoRate(t, r)
			} else {
				wantRate(t, r, expectRate(r, 50))
			}
		}
	}
}

// TestKeep checks P9.1 for I2: which parts are percentages.
func TestKeep(t *testing.T) {
	for k, want := range map[api.Rat]int{
		{N: 0, D: 1}: 0, {N: 1, D: 1}: 100, {N: 1, D: 2}: 50, {N: 1, D: 4}: 25, {N: 1, D: 5}: 20, {N: 1, D: 10}: 10, {N: 1, D: 20}: 5, {N: 1, D: 25}: 4, {N: 1, D: 50}: 2, {N: 1, D: 100}: 1,
		{N: 3, D: 4}: 75, {N: 99, D: 100}: 99, {N: 101, D: 100}: 101, {N: 7, D: 1}: 700, {N: 9999999, D: 1}: 999999900, {N: 199999999, D: 20}: 999999995, {N: 499999999, D: 50}: 999999998, {N: 999999999, D: 100}: 999999999,
	} {
		r, _ := example()
		r.Keep = k
		wantRate(t, r, expectRate(r, want))
	}
	for _, k := range []api.Rat{
		{}, {N: 1}, {N: 0, D: 2}, {N: 50, D: 100}, {N: 2, D: 4}, {N: 1, D: -2}, {N: -1, D: -2}, {N: math.MaxInt, D: math.MaxInt}, {N: math.MinInt, D: 1}, {N: 1, D: math.MinInt},
		{N: -1, D: 2}, {N: -1, D: 100}, {N: -1, D: 1}, {N: -1000000000, D: 1}, {N: -999999999, D: 100},
		{N: 1, D: 3}, {N: 1, D: 200}, {N: 1, D: 1000}, {N: 1, D: 8}, {N: 3, D: 1000}, {N: 1, D: 1000000}, {N: 999999999, D: 1000000}, {N: 2, D: 3}, {N: 1, D: 101},
		{N: 10000000, D: 1}, {N: 1000000000, D: 1}, {N: 999999999, D: 1}, {N: 200000001, D: 20}, {N: 500000001, D: 50}, {N: 999999999, D: 50}, {N: 1000000001, D: 100}, {N: 1000000001, D: 1},
	} {
		r, _ := example()
		r.Keep = k
		wantNoRate(t, r)
	}
}
