package parser_test

import (
	"math"
	"math/rand"
	"slices"
	"strconv"
	"strings"
	"testing"

	"innkeeper/api"
	"innkeeper/lexer"
	"innkeeper/parser"
)

// sameReading reports whether two results of Rates are equal.
func sameReading(a, b reading) bool {
	return slices.EqualFunc(a.rates, b.rates, sameRate) && a.e == b.e && a.line == b.line
}

// ratesOf returns what Rates returns, and checks P8.2, and for P1 that there are no other errors, and zero values with those.
func ratesOf(t *testing.T, s string) reading {
	t.Helper()
	l, e, line := parser.Rates(s)
	if e == api.OK {
		words := 0
		tokens, _, _ := lexer.Tokens(s)
		for _, x := range tokens {
			if x.Text == "rate" {
				words++
			}
		}
		for _, r := range l {
			if !parser.Valid(r.When) || !parser.Valid(r.Price) {
				t.Fatalf("Rates(%.200q) has the rate %.300v", s, r)
			}
		}
		if len(l) != words || len(l) > 100 || line != 0 {
			t.Fatalf("Rates(%.200q) = %d rates, OK, %d", s, len(l), line)
		}
		return reading{l, e, line}
	}
	known := e == api.ErrArg || e == api.ErrLimit || e == api.ErrSyntax
	if !known || len(l) > 0 || line > 1+strings.Count(s, "\n") || (line < 1) != (len(s) > 20000) {
		t.Fatalf("Rates(%.200q) = %d rates, %v, %d", s, len(l), e, line)
	}
	return reading{l, e, line}
}

// wantModel checks what Rates returns against the model.
func wantModel(t *testing.T, ways map[string][]way, s string) reading {
	t.Helper()
	got := ratesOf(t, s)
	if want := expect(ways, s); !sameReading(got, want) {
		t.Fatalf("Rates(%q) = %.300v; want %.300v", s, got, want)
	}
	return got
}

// wantModelExpr checks what Expr returns against the model.
func wantModelExpr(t *testing.T, ways map[string][]way, s string) api.Errno {
	t.Helper()
	got, e := parser.Expr(s)
	if want, f := expectExpr(ways, s); !same(got, want) || e != f {
		t.Fatalf("Expr(%q) = %.300v, %v; want %.300v, %v", s, got, e, want, f)
	}
	return e
}

// someExpr returns a well-formed expression of up to so many nodes.
func someExpr(r *rand.Rand, most int) api.Expr {
	var grow func(most, deep int) api.Expr
	grow = func(most, deep int) api.Expr {
		if most < 2 || deep == 30 {
			numbers := []int{0, 1, 2, 6, 100, 999999999, r.Intn(1000000000)}
			return []api.Expr{number(numbers[r.Intn(7)]), amount(numbers[r.Intn(7)]), amount(1000000000), variable(1 + r.Intn(4))}[r.Intn(4)]
		}
		kind := 4 + r.Intn(12)
		many := 2
		if most == 2 || kind == api.OpNot {
			kind, many = api.OpNot, 1
		}
		if kind == api.OpIf {
			if many = 3; most == 3 {
				kind, many = api.OpAdd, 2
			}
		}
		rest := most - 1
		e := op(kind)
		for i := range many {
			n := rest - (many - 1 - i)
			if i < many-1 {
				n = 1 + r.Intn(n)
			}
			e.Kids = append(e.Kids, grow(n, deep+1))
			rest -= n
		}
		return e
	}
	return grow(most, 1)
}

// leafText returns the text of an expression without Kids.
func leafText(e api.Expr) string {
	switch e.Op {
	case api.OpNumber:
		return strconv.Itoa(e.N)
	case api.OpMoney:
		return strconv.Itoa(e.N/100) + "." + strconv.Itoa(e.N/10%10) + strconv.Itoa(e.N%10)
	}
	return []string{"nights", "persons", "night", "weekday"}[e.N-1]
}

// signs are the texts of operators that stand between two parts.
var signs = [16]string{api.OpAdd: "+", api.OpSub: "-", api.OpMul: "*", api.OpDiv: "/", api.OpLess: "<", api.OpEqual: "=", api.OpAnd: "and", api.OpOr: "or"}

// textOf returns a source of an expression, in which each part stands as part writes it, by the place of its part.
func textOf(e api.Expr, part func(i int) string) string {
	switch e.Op {
	case api.OpNumber, api.OpMoney, api.OpVar:
		return leafText(e)
	case api.OpMin:
		return "min (" + part(0) + ", " + part(1) + ")"
	case api.OpMax:
		return "max (" + part(0) + ", " + part(1) + ")"
	case api.OpIf:
		return "if " + part(0) + " then " + part(1) + " else " + part(2)
	case api.OpNot:
		return "not " + part(0)
	}
	return part(0) + " " + signs[e.Op] + " " + part(1)
}

// inBrackets returns a source of an expression in which all parts stand in brackets.
func inBrackets(e api.Expr) string {
	return textOf(e, func(i int) string { return "(" + inBrackets(e.Kids[i]) + ")" })
}

// rank returns how tightly an operator binds.
func rank(o int) int {
	for i, l := range [][]int{{api.OpIf}, {api.OpOr}, {api.OpAnd}, {api.OpNot}, {api.OpLess, api.OpEqual}, {api.OpAdd, api.OpSub}, {api.OpMul, api.OpDiv}} {
		if slices.Contains(l, o) {
			return i
		}
	}
	return 7
}

// free returns a source of an expression that has brackets where P8.5 wants them, and elsewhere with a chance of one in more (0: none).
func free(r *rand.Rand, more int, e api.Expr) string {
	return textOf(e, func(i int) string {
		least := rank(e.Op)
		if i == 1 && least != 3 || least == 4 {
			// The same rank again is read from the left, and never for comparisons.
			least++
		}
		if e.Op == api.OpIf || e.Op == api.OpMin || e.Op == api.OpMax {
			least = 0
		}
		k := e.Kids[i]
		if rank(k.Op) >= least && (more == 0 || r.Intn(more) > 0) {
			return free(r, more, k)
		}
		return "(" + free(r, more, k) + ")"
	})
}

// TestModel checks the model itself with the chapter's examples, so that the tests that need it can fail.
func TestModel(t *testing.T) {
	ways := waysOf()
	if got := expect(ways, example); !sameReading(got, reading{rates: []api.Rate{exampleRate()}}) {
		t.Errorf("the example is expected as %v", got)
	}
	if got, e := expectExpr(ways, "1 - 2 - 3"); e != api.OK || !same(got, op(api.OpSub, op(api.OpSub, number(1), number(2)), number(3))) {
		t.Errorf("1 - 2 - 3 is expected as %v, %v", got, e)
	}
	if got, e := expectExpr(ways, "1 < 2 < 3"); e != api.ErrSyntax {
		t.Errorf("1 < 2 < 3 is expected as %v, %v", got, e)
	}
}

// TestAllShortExpressions checks P8.1 for H2 and P8.5: all short sources of some words.
func TestAllShortExpressions(t *testing.T) {
	ways := waysOf()
	seen := map[api.Errno]int{}
	for _, x := range []struct {
		words string
		most  int
	}{
		{"1 nights + * < and or not ( ) if then else min , rate", 3},
		{"1 - / = not ( )", 5},
		{"1 if then else or", 6},
		{"1 or and not <", 5},
	} {
		words := strings.Fields(x.words)
		all := []string{""}
		for range x.most {
			var longer []string
			for _, s := range all {
				for _, w := range words {
					s := s + " " + w
					seen[wantModelExpr(t, ways, s)]++
					longer = append(longer, s)
				}
			}
			all = longer
		}
	}
	if seen[api.OK] < 50 || seen[api.ErrSyntax] < 10000 {
		t.Errorf("results: %v; want many of both", seen)
	}
}

// damage returns words of which a few are left out, exchanged, or others.
func damage(r *rand.Rand, words []string) []string {
	words = slices.Clone(words)
	others := strings.Fields("1 0 1.00 nights persons night weekday + - * / < = and or not if then else min max ( ) , ; % { } rate level kind to stay arrive keep when price x")
	for range 1 + r.Intn(2) {
		i, k := r.Intn(len(words)), r.Intn(len(words))
		switch r.Intn(5) {
		case 0:
			words = slices.Delete(words, i, i+1)
		case 1:
			words[i], words[k] = words[k], words[i]
		case 2:
			words[i] = others[r.Intn(len(others))]
		case 3:
			words = slices.Insert(words, i, others[r.Intn(len(others))])
		case 4:
			words = words[:i+1]
		}
		if len(words) == 0 {
			return []string{"rate"}
		}
	}
	return words
}

// wordsOf returns the words of a source.
func wordsOf(s string) []string {
	l, _, _ := lexer.Tokens(s)
	var words []string
	for _, x := range l {
		words = append(words, x.Text)
	}
	return words
}

// TestDamagedExpressions checks P8.1 for H2 with long expressions, of which some are too large, and most are damaged.
func TestDamagedExpressions(t *testing.T) {
	r := rand.New(rand.NewSource(81))
	ways := waysOf()
	seen := map[api.Errno]int{}
	for i := range 1000 {
		e := someExpr(r, 1+r.Intn(40))
		if i%10 == 0 {
			e = op(4+r.Intn(6), someExpr(r, 1+r.Intn(150)), someExpr(r, 1+r.Intn(150)))
		}
		s := free(r, r.Intn(5), e)
		seen[wantModelExpr(t, ways, s)]++
		seen[wantModelExpr(t, ways, strings.Join(damage(r, wordsOf(s)), " "))]++
	}
	if seen[api.OK] < 500 || seen[api.ErrSyntax] < 500 || seen[api.ErrArg] < 20 {
		t.Errorf("results: %v; want many of each", seen)
	}
}

// someNumber returns a number that a source can say.
func someNumber(r *rand.Rand) int {
	return []int{0, 1, 2, 7, 99, 100, 366, 999999999, r.Intn(100), r.Intn(1000000000)}[r.Intn(10)]
}

// someRate returns a rate as a source can say it, and the percentage that it keeps.
func someRate(r *rand.Rand, most int) (api.Rate, int) {
	percent := someNumber(r)
	return api.Rate{
		ID: someNumber(r), Level: someNumber(r), Kind: someNumber(r), Season: api.Span{From: someNumber(r), Until: someNumber(r)},
		Least: someNumber(r), Most: someNumber(r), Arrive: someNumber(r), Keep: hundredth(percent),
		When: someExpr(r, 1+r.Intn(most)), Price: someExpr(r, 1+r.Intn(most)),
	}, percent
}

// sourceOf returns a source of a rate, with line feeds in it.
func sourceOf(r *rand.Rand, x api.Rate, percent int) string {
	var b strings.Builder
	for _, w := range []any{"rate", x.ID, "level", x.Level, "kind", x.Kind, "nights", x.Season.From, "to", x.Season.Until, "stay", x.Least, "to", x.Most, "arrive", x.Arrive, "keep", percent, "% when", x.When, "price", x.Price, ";"} {
		switch w := w.(type) {
		case string:
			b.WriteString(w)
		case int:
			b.WriteString(strconv.Itoa(w))
		case api.Expr:
			b.WriteString(free(r, r.Intn(4), w))
		}
		b.WriteString([]string{" ", " ", "\n", "\n\n", " # rate 1\n"}[r.Intn(5)])
	}
	return b.String()
}

// someSource returns a source of rates, with its rates.
func someSource(r *rand.Rand, many, most int) (string, []api.Rate) {
	s := ""
	var l []api.Rate
	for range many {
		x, percent := someRate(r, most)
		l = append(l, x)
		s += sourceOf(r, x, percent)
	}
	return s, l
}

// TestDamagedRates checks P8.1 for H3: random sources, in which a few words are changed, against the model, lines and all.
func TestDamagedRates(t *testing.T) {
	r := rand.New(rand.NewSource(82))
	ways := waysOf()
	seen := map[api.Errno]int{}
	for i := range 3000 {
		s, _ := someSource(r, r.Intn(3), 10)
		words := append(wordsOf(s), wordsOf(example)...)
		if i%5 == 0 {
			s, _ := sumOf(28 + r.Intn(5))
			at := slices.Index(words, "when")
			words = slices.Insert(words, at+1, append(strings.Fields(s), "+")...)
		}
		if i%4 > 0 {
			words = damage(r, words)
		}
		var b strings.Builder
		for _, w := range words {
			b.WriteString(w + []string{" ", "\n", "\n\n"}[r.Intn(3)])
		}
		seen[wantModel(t, ways, b.String()).e]++
	}
	const short = "rate 1 level 1 kind 1 nights 1 to 2 stay 1 to 1 arrive 1 keep 1 % when 1 price 1\n;\n"
	for range 40 {
		many := 98 + r.Intn(5)
		words := slices.Repeat(strings.Fields(short), many)
		if r.Intn(2) == 0 {
			tail := words[24*97:]
			words = append(words[:24*97:24*97], damage(r, tail)...)
		}
		seen[wantModel(t, ways, strings.Join(words, "\n")).e]++
	}
	if seen[api.OK] < 500 || seen[api.ErrSyntax] < 1000 || seen[api.ErrArg] < 50 || seen[api.ErrLimit] < 5 {
		t.Errorf("results: %v; want many of each", seen)
	}
}

// TestSources checks P8.2 and P8.6: random rates are read from their sources as they are.
func TestSources(t *testing.T) {
	r := rand.New(rand.NewSource(86))
	for range 2000 {
		s, l := someSource(r, r.Intn(5), 60)
		if len(s) <= 20000 && len(wordsOf(s)) <= 5000 {
			wantRates(t, s, l...)
		}
	}
}

// TestTwoSources checks P8.3: the rates of both sources, whatever stands at the end of the first and at the beginning of the second.
func TestTwoSources(t *testing.T) {
	r := rand.New(rand.NewSource(83))
	ends := []string{"", " ", "\n", "# rate", "#"}
	for range 2000 {
		a, l := someSource(r, r.Intn(4), 20)
		b, m := someSource(r, r.Intn(4), 20)
		s := a + ends[r.Intn(5)] + "\n" + ends[r.Intn(3)] + b
		wantRates(t, s, append(l, m...)...)
	}
	const short = "rate 1 level 1 kind 1 nights 1 to 2 stay 1 to 1 arrive 1 keep 1 % when 1 price 1;"
	for _, x := range [][2]int{{0, 0}, {50, 50}, {100, 0}, {1, 99}, {99, 2}, {100, 1}, {51, 50}} {
		a, b := strings.Repeat(short, x[0]), strings.Repeat(short, x[1])
		got := ratesOf(t, a+"\n"+b)
		if x[0]+x[1] > 100 {
			wantNoRates(t, a+"\n"+b, api.ErrLimit, 2)
		} else if len(got.rates) != x[0]+x[1] || got.e != api.OK {
			t.Errorf("%d and %d rates are %d, %v", x[0], x[1], len(got.rates), got.e)
		}
	}
	// An error of the first source stays, and one of the second is in a later line.
	wantNoRates(t, "rate 1\n"+example, api.ErrSyntax, 2)
	wantNoRates(t, example+"\n"+"rate 1", api.ErrSyntax, 2)
}

// TestBrackets checks P8.4: expressions of all sizes are read from their sources with brackets everywhere, and with more of them.
func TestBrackets(t *testing.T) {
	r := rand.New(rand.NewSource(84))
	sizes := map[bool]int{}
	for range 1500 {
		e := someExpr(r, 1+r.Intn(200))
		if !wellFormed(e) {
			t.Fatalf("%v is not well-formed", e)
		}
		sizes[len(nodes(e)) > 150]++
		sizes[depth(e) > 25]++
		s := inBrackets(e)
		wantExpr(t, s, e)
		wantExpr(t, "("+s+")", e)
		wantExpr(t, "\n( (("+s+" ) ) # )\n)", e)
	}
	if sizes[true] < 100 {
		t.Errorf("expressions are too small: %v", sizes)
	}
	for o := range 16 {
		for many := range 4 {
			if e := kids(o, 0, many); wellFormed(e) {
				wantExpr(t, inBrackets(e), e)
			}
		}
	}
}

// TestPrecedence checks P8.5: brackets can be left out where what is read first is what stood in them; and not elsewhere.
func TestPrecedence(t *testing.T) {
	r := rand.New(rand.NewSource(85))
	for range 5000 {
		e := someExpr(r, 1+r.Intn(80))
		wantExpr(t, free(r, 0, e), e)
		wantExpr(t, free(r, 2+r.Intn(5), e), e)
	}
	// All pairs of operators between three parts, by their ranks alone.
	for _, a := range []int{4, 5, 6, 7, 11, 12, 13, 14} {
		for _, b := range []int{4, 5, 6, 7, 11, 12, 13, 14} {
			s := "1 " + signs[a] + " 2 " + signs[b] + " 3"
			left := op(b, op(a, number(1), number(2)), number(3))
			right := op(a, number(1), op(b, number(2), number(3)))
			switch {
			case rank(a) < rank(b):
				wantExpr(t, s, right)
			case rank(a) == 4 && rank(b) == 4:
				wantNoExpr(t, s, api.ErrSyntax)
			default:
				wantExpr(t, s, left)
			}
		}
		s := "not 1 " + signs[a] + " 2"
		if rank(a) > 3 {
			wantExpr(t, s, op(api.OpNot, op(a, number(1), number(2))))
		} else {
			wantExpr(t, s, op(a, op(api.OpNot, number(1)), number(2)))
		}
	}
}

// TestEmptyLines checks P8.7: empty lines before a source move only the line of an error.
func TestEmptyLines(t *testing.T) {
	r := rand.New(rand.NewSource(87))
	check := func(s string, lines int) {
		t.Helper()
		want := ratesOf(t, s)
		if want.line > 0 {
			want.line += lines
		}
		if got := ratesOf(t, strings.Repeat("\n", lines)+s); !sameReading(got, want) {
			t.Fatalf("%.300q is %.300v; want %.300v, with %d lines before", s, got, want, lines)
		}
		one, e := parser.Expr(s)
		if two, f := parser.Expr(strings.Repeat("\n", lines) + s); !same(one, two) || e != f {
			t.Fatalf("%.300q is %.300v, %v, and with %d lines before %.300v, %v", s, one, e, lines, two, f)
		}
	}
	for range 1000 {
		s, _ := someSource(r, 1+r.Intn(3), 20)
		check(s, 1+r.Intn(100))
		check(strings.Join(damage(r, wordsOf(s)), "\n"), 1+r.Intn(100))
		check(free(r, 3, someExpr(r, 20)), 1+r.Intn(100))
	}
	for _, s := range []string{"", example, "rate", "\n}", "$", strings.Repeat("a ", 5001), strings.Repeat(strings.Replace(example, "100.00", "1", 1), 101), "1", "1 +"} {
		check(s, 20000-len(s))
		check(s, 1)
	}
	wantNoRates(t, strings.Repeat("\n", 20001)+example, api.ErrLimit, 0)
	wantNoRates(t, strings.Repeat("\n", 20001-len(example))+example, api.ErrLimit, 0)
}

// TestAllValid checks P8.1 for H1: random expressions, and such in which one node is not as it has to be.
func TestAllValid(t *testing.T) {
	r := rand.New(rand.NewSource(811))
	numbers := []int{math.MinInt, -1, 0, 1, 2, 4, 5, 16, 999999999, 1000000000, 1000000001, math.MaxInt}
	seen := map[bool]int{}
	for range 20000 {
		e := someExpr(r, 1+r.Intn(30))
		if !parser.Valid(e) {
			t.Fatalf("%v is not valid", e)
		}
		at := &e
		for len(at.Kids) > 0 && r.Intn(4) > 0 {
			at = &at.Kids[r.Intn(len(at.Kids))]
		}
		switch r.Intn(4) {
		case 0:
			at.N = numbers[r.Intn(len(numbers))]
		case 1:
			at.Op = r.Intn(18) - 1
		case 2:
			at.Kids = append(at.Kids, number(1))
		case 3:
			at.Kids = at.Kids[:len(at.Kids)/2]
		}
		if got := parser.Valid(e); got != wellFormed(e) {
			t.Fatalf("Valid(%v) = %v", e, got)
		}
		seen[wellFormed(e)]++
	}
	if seen[true] < 1000 || seen[false] < 1000 {
		t.Errorf("results: %v; want many of both", seen)
	}
}

// TestAllArguments checks P1: no call panics, and all end, whatever the argument is.
func TestAllArguments(t *testing.T) {
	// Parts that are the same, so that there are more nodes than could be counted, and parts of themselves.
	many := number(1)
	for range 100 {
		many = op(api.OpAdd, many, many)
	}
	around := api.Expr{Op: api.OpIf, Kids: make([]api.Expr, 3)}
	for i := range around.Kids {
		around.Kids[i] = around
	}
	alone := api.Expr{Op: api.OpNot, Kids: make([]api.Expr, 1)}
	alone.Kids[0] = alone
	wide := api.Expr{Op: api.OpAdd, Kids: make([]api.Expr, 1000000)}
	deep := number(1)
	for range 1000000 {
		deep = op(api.OpNot, deep)
	}
	for i, e := range []api.Expr{many, around, alone, wide, deep, op(api.OpAdd, number(1), deep), op(api.OpAdd, many, number(-1))} {
		if parser.Valid(e) {
			t.Errorf("expression %d is valid", i)
		}
	}
	for _, x := range []string{"(", ")", "if ", "then ", "else ", "not ", "min(", "max(1,", "1+", "1 or ", "1<", "rate ", "rate 1 ", ";", ",", "%", "1", "1 ", "1.00 ", "nights ", "when ", "$", "\xff", "\n", "#", " ", "{"} {
		for _, n := range []int{1, 2, 2500, 5000, 19999, 20000, 20001, 1000000} {
			s := strings.Repeat(x, n/len(x)+1)[:n]
			ratesOf(t, s)
			e, f := parser.Expr(s)
			fine := f == api.OK && parser.Valid(e)
			if !fine && (!same(e, api.Expr{}) || f != api.ErrSyntax && f != api.ErrLimit && f != api.ErrArg) {
				t.Errorf("Expr(%.20q) of %d bytes = %v, %v", s, n, e, f)
			}
		}
	}
}

// TestArgumentsStay checks the document's Rules: calls change no argument, results share no memory, not even parts of one result, and calls are repeatable.
func TestArgumentsStay(t *testing.T) {
	r := rand.New(rand.NewSource(88))
	for range 300 {
		s, l := someSource(r, 3, 30)
		first := ratesOf(t, s)
		lists := map[*api.Expr]bool{}
		for _, x := range first.rates {
			for _, e := range append(nodes(x.When), nodes(x.Price)...) {
				if len(e.Kids) > 0 && lists[&e.Kids[0]] {
					t.Fatalf("%q has Kids that share memory", s)
				}
				if len(e.Kids) > 0 {
					lists[&e.Kids[0]] = true
				}
			}
		}
		for list := range lists {
			*list = api.Expr{Op: -1}
		}
		clear(first.rates[:cap(first.rates)])
		wantRates(t, s, l...)
	}
	e := op(api.OpAdd, number(1), op(api.OpNot, variable(5)))
	parser.Valid(e)
	if !same(e, op(api.OpAdd, number(1), op(api.OpNot, variable(5)))) {
		t.Errorf("Valid left %v", e)
	}
}
