package parser_test

import (
	"math"
	"slices"
	"strconv"
	"strings"
	"testing"

	"innkeeper/api"
	"innkeeper/parser"
)

// The expressions without Kids, and those with some.
func number(n int) api.Expr                { return api.Expr{Op: api.OpNumber, N: n} }
func amount(n int) api.Expr                { return api.Expr{Op: api.OpMoney, N: n} }
func variable(n int) api.Expr              { return api.Expr{Op: api.OpVar, N: n} }
func op(op int, kids ...api.Expr) api.Expr { return api.Expr{Op: op, Kids: kids} }

// same reports whether two expressions are equal; it makes no difference whether Kids are nil or empty.
func same(a, b api.Expr) bool {
	return a.Op == b.Op && a.N == b.N && slices.EqualFunc(a.Kids, b.Kids, same)
}

// wantExpr checks the expression of a source.
func wantExpr(t *testing.T, s string, want api.Expr) {
	t.Helper()
	if got, e := parser.Expr(s); !same(got, want) || e != api.OK {
		t.Errorf("Expr(%.200q) = %.300v, %v; want %.300v", s, got, e, want)
	}
}

// wantNoExpr checks the error of a source.
func wantNoExpr(t *testing.T, s string, f api.Errno) {
	t.Helper()
	if got, e := parser.Expr(s); !same(got, api.Expr{}) || e != f {
		t.Errorf("Expr(%.200q) = %.300v, %v; want %v", s, got, e, f)
	}
}

// TestAtoms checks P8.1 for H2, and P8.6: numbers, amounts, variables and brackets.
func TestAtoms(t *testing.T) {
	for s, want := range map[string]api.Expr{
		"0":                          number(0),
		"7":                          number(7),
		"999999999":                  number(999999999),
		"0.00":                       amount(0),
		"0.05":                       amount(5),
		"12.50":                      amount(1250),
		"100.00":                     amount(10000),
		"10000000.00":                amount(1000000000),
		"9999999.99":                 amount(999999999),
		"nights":                     variable(1),
		"persons":                    variable(2),
		"night":                      variable(3),
		"weekday":                    variable(4),
		"(1)":                        number(1),
		"( ( (nights) ) )":           variable(1),
		"\n\n1 # one\n":              number(1),
		"min(1, 2)":                  op(api.OpMin, number(1), number(2)),
		"max ( 1.00 , night )":       op(api.OpMax, amount(100), variable(3)),
		"(min((1),((2))))":           op(api.OpMin, number(1), number(2)),
		"min(if 1 then 2 else 3, 4)": op(api.OpMin, op(api.OpIf, number(1), number(2), number(3)), number(4)),
		"max(1, min(2, 3))":          op(api.OpMax, number(1), op(api.OpMin, number(2), number(3))),
		"max(1 or 2, not 3)":         op(api.OpMax, op(api.OpOr, number(1), number(2)), op(api.OpNot, number(3))),
	} {
		wantExpr(t, s, want)
	}
}

// TestLevels checks P8.1 for H2, and P8.5: what is read before what, and from the left.
func TestLevels(t *testing.T) {
	one, two, three, four := number(1), number(2), number(3), number(4)
	for s, want := range map[string]api.Expr{
		"1 + 2":                     op(api.OpAdd, one, two),
		"1 - 2":                     op(api.OpSub, one, two),
		"1 * 2":                     op(api.OpMul, one, two),
		"1 / 2":                     op(api.OpDiv, one, two),
		"1 < 2":                     op(api.OpLess, one, two),
		"1 = 2":                     op(api.OpEqual, one, two),
		"1 and 2":                   op(api.OpAnd, one, two),
		"1 or 2":                    op(api.OpOr, one, two),
		"not 1":                     op(api.OpNot, one),
		"not not 1":                 op(api.OpNot, op(api.OpNot, one)),
		"1 - 2 - 3":                 op(api.OpSub, op(api.OpSub, one, two), three),
		"1 - 2 + 3 - 4":             op(api.OpSub, op(api.OpAdd, op(api.OpSub, one, two), three), four),
		"1 / 2 * 3 / 4":             op(api.OpDiv, op(api.OpMul, op(api.OpDiv, one, two), three), four),
		"1 or 2 or 3":               op(api.OpOr, op(api.OpOr, one, two), three),
		"1 and 2 and 3":             op(api.OpAnd, op(api.OpAnd, one, two), three),
		"1 - (2 - 3)":               op(api.OpSub, one, op(api.OpSub, two, three)),
		"1 / (2 / 3)":               op(api.OpDiv, one, op(api.OpDiv, two, three)),
		"1 or (2 or 3)":             op(api.OpOr, one, op(api.OpOr, two, three)),
		"1 + 2 * 3":                 op(api.OpAdd, one, op(api.OpMul, two, three)),
		"1 * 2 + 3":                 op(api.OpAdd, op(api.OpMul, one, two), three),
		"1 * (2 + 3)":               op(api.OpMul, one, op(api.OpAdd, two, three)),
		"1 + 2 < 3 * 4":             op(api.OpLess, op(api.OpAdd, one, two), op(api.OpMul, three, four)),
		"1 = 2 - 3":                 op(api.OpEqual, one, op(api.OpSub, two, three)),
		"(1 < 2) < 3":               op(api.OpLess, op(api.OpLess, one, two), three),
		"1 = (2 = 3)":               op(api.OpEqual, one, op(api.OpEqual, two, three)),
		"not 1 < 2":                 op(api.OpNot, op(api.OpLess, one, two)),
		"(not 1) < 2":               op(api.OpLess, op(api.OpNot, one), two),
		"not 1 + 2":                 op(api.OpNot, op(api.OpAdd, one, two)),
		"not 1 and 2":               op(api.OpAnd, op(api.OpNot, one), two),
		"not (1 and 2)":             op(api.OpNot, op(api.OpAnd, one, two)),
		"1 and not 2 or not 3":      op(api.OpOr, op(api.OpAnd, one, op(api.OpNot, two)), op(api.OpNot, three)),
		"1 or 2 and 3":              op(api.OpOr, one, op(api.OpAnd, two, three)),
		"1 and 2 or 3":              op(api.OpOr, op(api.OpAnd, one, two), three),
		"(1 or 2) and 3":            op(api.OpAnd, op(api.OpOr, one, two), three),
		"1 < 2 and 3 = 4":           op(api.OpAnd, op(api.OpLess, one, two), op(api.OpEqual, three, four)),
		"if 1 then 2 else 3":        op(api.OpIf, one, two, three),
		"if 1 then 2 else 3 or 4":   op(api.OpIf, one, two, op(api.OpOr, three, four)),
		"(if 1 then 2 else 3) or 4": op(api.OpOr, op(api.OpIf, one, two, three), four),
		"1 + (if 2 then 3 else 4)":  op(api.OpAdd, one, op(api.OpIf, two, three, four)),
		"if 1 or 2 then 3 else 4":   op(api.OpIf, op(api.OpOr, one, two), three, four),
		"if 1 then 2 or 3 else 4":   op(api.OpIf, one, op(api.OpOr, two, three), four),
		"if 1 then 2 else if 3 then 4 else 1": op(api.OpIf, one, two,
			op(api.OpIf, three, four, one)),
		"if 1 then if 2 then 3 else 4 else 1": op(api.OpIf, one,
			op(api.OpIf, two, three, four), one),
		"if if 1 then 2 else 3 then 4 else 1": op(api.OpIf,
			op(api.OpIf, one, two, three), four, one),
		"if not 1 then 2 else not 3":           op(api.OpIf, op(api.OpNot, one), two, op(api.OpNot, three)),
		"100.00 + 20.00 * persons":             op(api.OpAdd, amount(10000), op(api.OpMul, amount(2000), variable(2))),
		"nights<5and persons=2":                op(api.OpAnd, op(api.OpLess, variable(1), number(5)), op(api.OpEqual, variable(2), two)),
		"weekday=6or night=0 # the\nand not 1": op(api.OpOr, op(api.OpEqual, variable(4), number(6)), op(api.OpAnd, op(api.OpEqual, variable(3), number(0)), op(api.OpNot, one))),
	} {
		wantExpr(t, s, want)
		wantExpr(t, "("+s+"\n)", want)
	}
}

// TestNoExpr checks P8.1 for H2 with sources of no expression.
func TestNoExpr(t *testing.T) {
	for _, s := range []string{
		"", " ", "\n", "# 1", "()", "(", ")", "(1", "1)", "((1)", "(1))", "1 2", "1 1.00", "(1) 2", "(1)(2)",
		"1 < 2 < 3", "1 = 2 = 3", "1 < 2 = 3", "1 + 2 = 3 * 4 < 5", "not 1 < 2 < 3", "(1 < 2 < 3)",
		"+", "1 +", "+ 1", "- 1", "1 - - 1", "1 + * 2", "* 1", "1 <", "< 1", "1 <= 2", "1 = = 2", "1 > 2",
		"1 and", "and 1", "1 or", "or", "1 and or 2", "not", "1 not", "1 not 2", "1 + not 2", "1 < not 2", "not not", "not and 1",
		"if", "if 1", "if 1 then", "if 1 then 2", "if 1 then 2 else", "if then else", "then", "else 1", "if 1 else 2", "if 1 then 2 then 3 else 4", "if 1 then 2 else 3 else 4",
		"1 + if 1 then 2 else 3", "not if 1 then 2 else 3", "1 or if 1 then 2 else 3", "1 < if 1 then 2 else 3", "if 1 then 2 else 3 if", "if 1, then 2 else 3",
		"min", "min 1", "min()", "min(1)", "min(1,)", "min(,1)", "min(1, 2", "min(1 2)", "min(1, 2, 3)", "min 1, 2", "max(1; 2)", "max((1, 2))", "(min)(1, 2)", "min(1, 2) 3", "1, 2", "min(1, 2))",
		"rate", "level", "kind", "to", "stay", "arrive", "keep", "when", "price", "1 to 2", "x", "nightss", "mins(1, 2)", "person", "5%", "1;", ";", "{1}", "{", "}", "%", ",",
		"1.5", "007", "$", "1 + $", "\t1", "true", "1 and 2 <",
	} {
		wantNoExpr(t, s, api.ErrSyntax)
	}
	wantNoExpr(t, strings.Repeat("(", 5000), api.ErrSyntax)
	wantNoExpr(t, strings.Repeat("not ", 5000), api.ErrSyntax)
	wantNoExpr(t, strings.Repeat("if ", 5000), api.ErrSyntax)
	wantNoExpr(t, strings.Repeat("1+", 2500), api.ErrSyntax)
	wantNoExpr(t, strings.Repeat("min(", 2500), api.ErrSyntax)
	wantNoExpr(t, strings.Repeat("not ", 4998)+"1 1", api.ErrSyntax)
	wantNoExpr(t, strings.Repeat("1;", 2501), api.ErrLimit)
	wantNoExpr(t, strings.Repeat("(", 5001), api.ErrLimit)
	wantNoExpr(t, strings.Repeat("(", 5000)+"$", api.ErrSyntax)
	wantNoExpr(t, "1"+strings.Repeat(" ", 20000), api.ErrLimit)
	wantNoExpr(t, "$"+strings.Repeat(" ", 20000), api.ErrLimit)
	wantExpr(t, "1"+strings.Repeat(" ", 19999), number(1))
}

// sumOf returns a sum of ones as a source, and as an expression, which is as deep as there are ones.
func sumOf(n int) (string, api.Expr) {
	s, e := "1", number(1)
	for range n - 1 {
		s += " + 1"
		e = op(api.OpAdd, e, number(1))
	}
	return s, e
}

// wide returns an expression with so many nodes, none of them deeper than it has to be.
func wide(nodes int) (string, api.Expr) {
	switch nodes {
	case 1:
		return "1", number(1)
	case 2:
		return "not 1", op(api.OpNot, number(1))
	}
	s, first := wide((nodes - 1) / 2)
	u, second := wide(nodes / 2)
	return "(" + s + ") * (" + u + ")", op(api.OpMul, first, second)
}

// TestSizes checks P8.1 for H1 and H2: as many nodes, and as deep, as can be, and one more.
func TestSizes(t *testing.T) {
	for _, depth := range []int{1, 2, 29, 30, 31, 32, 100} {
		s, e := sumOf(depth)
		nots, deep := strings.Repeat("not ", depth-1)+"1", number(1)
		choices, last := strings.Repeat("if 1 then 1 else ", depth-1)+"1", number(1)
		for range depth - 1 {
			deep = op(api.OpNot, deep)
			last = op(api.OpIf, number(1), number(1), last)
		}
		for s, e := range map[string]api.Expr{s: e, "(" + s + ")": e, nots: deep, choices: last} {
			if depth > 30 {
				wantNoExpr(t, s, api.ErrArg)
			} else {
				wantExpr(t, s, e)
			}
			if got := parser.Valid(e); got != (depth <= 30) {
				t.Errorf("Valid of a depth of %d is %v", depth, got)
			}
		}
	}
	for _, nodes := range []int{1, 2, 3, 99, 198, 199, 200, 201, 202, 203, 400} {
		s, e := wide(nodes)
		if nodes > 200 {
			wantNoExpr(t, s, api.ErrArg)
		} else {
			wantExpr(t, s, e)
		}
		if got := parser.Valid(e); got != (nodes <= 200) {
			t.Errorf("Valid of %d nodes is %v", nodes, got)
		}
	}
	// Brackets are no nodes, and make nothing deeper.
	wantExpr(t, strings.Repeat("(", 2499)+"1"+strings.Repeat(")", 2499), number(1))
	wantNoExpr(t, strings.Repeat("not ", 4999)+"1", api.ErrArg)
	s, _ := sumOf(2500)
	wantNoExpr(t, s, api.ErrArg)
	// What is wrong with the tokens comes before what is too large.
	wantNoExpr(t, s+")", api.ErrSyntax)
}

// kids returns an expression with so many Kids, which are numbers.
func kids(op, n, many int) api.Expr {
	return api.Expr{Op: op, N: n, Kids: slices.Repeat([]api.Expr{number(1)}, many)}
}

// TestValid checks P8.1 for H1: numbers of Kids, and what N may be, for each Op and for none.
func TestValid(t *testing.T) {
	for _, o := range []int{math.MinInt, -1, 0, 1, 2, 3, 4, 5, 6, 7, 8, 9, 10, 11, 12, 13, 14, 15, 16, 17, 100, math.MaxInt} {
		want, least, most := 2, 0, 0
		switch {
		case o < 1 || o > 15:
			want = -1
		case o == api.OpNumber:
			want, most = 0, 999999999
		case o == api.OpMoney:
			want, most = 0, 1000000000
		case o == api.OpVar:
			want, least, most = 0, 1, 4
		case o == api.OpNot:
			want = 1
		case o == api.OpIf:
			want = 3
		}
		for many := range 7 {
			for _, n := range []int{math.MinInt, -1000000000, -1, 0, 1, 2, 3, 4, 5, 999999998, 999999999, 1000000000, 1000000001, math.MaxInt} {
				e := kids(o, n, many)
				if got := parser.Valid(e); got != (many == want && least <= n && n <= most) {
					t.Errorf("Valid(%v) = %v", e, got)
				}
			}
		}
	}
	for _, bad := range []api.Expr{{}, {Op: 16}, number(-1), variable(0), variable(5), amount(1000000001), op(api.OpNot), op(api.OpNumber, number(1))} {
		for i := range 3 {
			e := kids(api.OpIf, 0, 3)
			e.Kids[i] = bad
			if parser.Valid(e) || parser.Valid(op(api.OpNot, e)) {
				t.Errorf("%v is valid", e)
			}
		}
	}
}

// example is the rate of the chapter's example.
const example = "rate 7 level 1 kind 2 nights 10 to 40 stay 2 to 9 arrive 127 keep 50 % when nights < 5 price 100.00 + 20.00 * persons;"

// exampleRate returns what it is read as.
func exampleRate() api.Rate {
	return api.Rate{
		ID: 7, Level: 1, Kind: 2, Season: api.Span{From: 10, Until: 40}, Least: 2, Most: 9, Arrive: 127, Keep: api.Rat{N: 1, D: 2},
		When:  op(api.OpLess, variable(1), number(5)),
		Price: op(api.OpAdd, amount(10000), op(api.OpMul, amount(2000), variable(2))),
	}
}

// sameRate reports whether two rates are equal.
func sameRate(a, b api.Rate) bool {
	fine := same(a.When, b.When) && same(a.Price, b.Price)
	return fine && a.ID == b.ID && a.Level == b.Level && a.Kind == b.Kind && a.Season == b.Season && a.Least == b.Least && a.Most == b.Most && a.Arrive == b.Arrive && a.Keep == b.Keep
}

// wantRates checks the rates of a source.
func wantRates(t *testing.T, s string, want ...api.Rate) {
	t.Helper()
	if l, e, line := parser.Rates(s); !slices.EqualFunc(l, want, sameRate) || e != api.OK || line != 0 {
		t.Errorf("Rates(%.200q) = %.300v, %v, %d; want %.300v", s, l, e, line, want)
	}
}

// wantNoRates checks the error of a source, and its line.
func wantNoRates(t *testing.T, s string, f api.Errno, at int) {
	t.Helper()
	if l, e, line := parser.Rates(s); len(l) > 0 || e != f || line != at {
		t.Errorf("Rates(%.200q) = %d rates, %v, %d; want %v, %d", s, len(l), e, line, f, at)
	}
}

// ratio returns a ratio.
func ratio(n, d int) api.Rat { return api.Rat{N: n, D: d} }

// TestRates checks P8.1 for H3, P8.2 and P8.6: the example, nothing, several rates, and numbers that no rate can be used with.
func TestRates(t *testing.T) {
	wantRates(t, example, exampleRate())
	wantRates(t, strings.ReplaceAll(example, " ", "\n"), exampleRate())
	wantRates(t, strings.NewReplacer("rate 7", "rate7", "50 %", "50%", " < ", "<", " + ", "+", " * ", "*").Replace(example), exampleRate())
	wantRates(t, "# rate\n"+example+"# rate", exampleRate())
	for _, s := range []string{"", " ", "\n\n", "# rate 1"} {
		wantRates(t, s)
	}
	second := exampleRate()
	second.ID = 8
	wantRates(t, example+strings.Replace(example, "7", "8", 1), exampleRate(), second)
	wantRates(t, example+"\n"+example+example, exampleRate(), exampleRate(), exampleRate())
	wantRates(t, "rate 0 level 0 kind 0 nights 0 to 0 stay 0 to 0 arrive 0 keep 0 % when 0 price 0 ;", api.Rate{Keep: ratio(0, 1), When: number(0), Price: number(0)})
	wantRates(t, "rate 999999999 level 999999998 kind 999999997 nights 999999996 to 999999995 stay 999999994 to 999999993 arrive 999999992 keep 999999991 % when 999999990 price 10000000.00;", api.Rate{
		ID: 999999999, Level: 999999998, Kind: 999999997, Season: api.Span{From: 999999996, Until: 999999995}, Least: 999999994, Most: 999999993, Arrive: 999999992,
		Keep: ratio(999999991, 100), When: number(999999990), Price: amount(1000000000),
	})
	wantRates(t, "rate 1 level 2 kind 3 nights 4 to 5 stay 6 to 7 arrive 8 keep 9 % when nights price if night then weekday else persons;", api.Rate{
		ID: 1, Level: 2, Kind: 3, Season: api.Span{From: 4, Until: 5}, Least: 6, Most: 7, Arrive: 8, Keep: ratio(9, 100),
		When: variable(1), Price: op(api.OpIf, variable(3), variable(4), variable(2)),
	})
	for n, want := range map[int]api.Rat{0: ratio(0, 1), 1: ratio(1, 100), 2: ratio(1, 50), 5: ratio(1, 20), 25: ratio(1, 4), 33: ratio(33, 100), 75: ratio(3, 4), 100: ratio(1, 1), 101: ratio(101, 100), 150: ratio(3, 2), 999999999: ratio(999999999, 100), 999999900: ratio(9999999, 1)} {
		r := exampleRate()
		r.Keep = want
		wantRates(t, strings.Replace(example, "50", strconv.Itoa(n), 1), r)
	}
}

// TestNoRates checks P8.1 for H3: where a token cannot follow, and where the source ends too soon; the rate has a word, number or sign in each line.
func TestNoRates(t *testing.T) {
	lines := strings.Fields(strings.NewReplacer(";", " ;").Replace(example))
	for i := range lines {
		before := strings.Join(lines[:i], "\n")
		if i > 0 {
			wantNoRates(t, before, api.ErrSyntax, i)
			wantNoRates(t, before+"\n\n# more\n", api.ErrSyntax, i)
			before += "\n"
		}
		after := "\n" + strings.Join(lines[i+1:], "\n")
		for _, x := range []string{"}", "{", "rates", "then", "%%", "1.00 1.00", ", 1", ")"} {
			if lines[i] == "100.00" && x == "1.00 1.00" || lines[i] == "20.00" && x == "1.00 1.00" {
				continue
			}
			at := i + 1
			if x == "%%" && lines[i] == "%" {
				x = "%\n%"
				at++
			}
			wantNoRates(t, before+x+after, api.ErrSyntax, at)
		}
		// A word or number too few: the next one cannot stand in its place.
		if x := lines[i]; x != ";" && x != "price" {
			wantNoRates(t, before+after[1:], api.ErrSyntax, i+1)
		}
		wantNoRates(t, before+lines[i]+"\nrate"+after, api.ErrSyntax, i+2)
	}
	for s, at := range map[string]int{
		";":                            1,
		"\n;":                          2,
		"7":                            1,
		"rate":                         1,
		"\nrate\n":                     2,
		"rate 1.00":                    1,
		"rate\n1.00":                   2,
		"rate\n\nrate":                 3,
		"level 1":                      1,
		example + ";":                  1,
		example + "\n;":                2,
		example + "\n" + "level":       2,
		example + "\n" + "rate":        2,
		example + "\n" + "\nrate\n\n7": 5,
		strings.Replace(example, "nights < 5", "nights\n< 5\n< 6", 1):       3,
		strings.Replace(example, "nights < 5", "\nnot\nif nights < 5", 1):   3,
		strings.Replace(example, "20.00 * persons", "20.00 *\npersons)", 1): 2,
		strings.Replace(example, "20.00 * persons", "(20.00 *\npersons", 1): 2,
		strings.Replace(example, "10 to", "10\n,", 1):                       2,
		strings.Replace(example, "50 %", "50\n", 1):                         2,
		strings.Replace(example, "50 %", "\n50.00 %", 1):                    2,
		strings.Replace(example, "arrive 127", "arrive -\n127", 1):          1,
		strings.Replace(example, "when", "\nWhen", 1):                       2,
	} {
		wantNoRates(t, s, api.ErrSyntax, at)
	}
}

// TestOrderOfErrors checks P8.1 for H3: the error of the first token that has one, after those of the lexer.
func TestOrderOfErrors(t *testing.T) {
	deep := strings.Repeat("not\n", 30) + "1"
	big := "\nrate 7 level 1 kind 2 nights 10 to 40 stay 2 to 9 arrive 127 keep 50 % when " + deep + " price 1.00;"
	late := strings.NewReplacer("when "+deep, "when 1", "price 1.00", "price "+deep).Replace(big)
	wantNoRates(t, big, api.ErrArg, 2)
	wantNoRates(t, late, api.ErrArg, 2)
	wantNoRates(t, example+example+"\n"+big+big, api.ErrArg, 3)
	wantNoRates(t, late+"\n}", api.ErrArg, 2)
	wantNoRates(t, "rate\n\n"+big[len("\nrate "):], api.ErrArg, 1)
	wantNoRates(t, big[:len(big)-1], api.ErrSyntax, 32)
	wantNoRates(t, big[:len(big)-1]+"\n}", api.ErrSyntax, 33)
	wantNoRates(t, strings.Replace(big, "price", "price\n)", 1), api.ErrSyntax, 33)
	wantNoRates(t, late[:len(late)-1]+"\n}", api.ErrSyntax, 33)
	wantNoRates(t, big+"\n\n1.5", api.ErrSyntax, 34)
	wantNoRates(t, "}\n$", api.ErrSyntax, 2)
	wantNoRates(t, "}\n"+strings.Repeat("a\n", 5000), api.ErrLimit, 5001)
	wantNoRates(t, "}"+strings.Repeat(" ", 20000), api.ErrLimit, 0)

	const short = "rate 1 level 1 kind 1 nights 1 to 2 stay 1 to 1 arrive 1 keep 1 % when 1 price 1;\n"
	all := strings.Repeat(short, 100)
	r, _, _ := parser.Rates(short)
	wantRates(t, all, slices.Repeat(r, 100)...)
	wantNoRates(t, all+"\nrate", api.ErrLimit, 102)
	wantNoRates(t, all+short, api.ErrLimit, 101)
	wantNoRates(t, all+"rate\n}", api.ErrLimit, 101)
	wantNoRates(t, all+"rates", api.ErrSyntax, 101)
	wantNoRates(t, all+";\nrate", api.ErrSyntax, 101)
	wantNoRates(t, all+"rate 1\n\n$", api.ErrSyntax, 103)
	wantNoRates(t, strings.Repeat(short, 99)+big+short, api.ErrArg, 101)
	wantNoRates(t, strings.Repeat(short, 99)+"rate\n"+all, api.ErrSyntax, 101)
	wantNoRates(t, all+big, api.ErrLimit, 102)
}
