package printer_test

import (
	"fmt"
	"math"
	"math/rand"
	"slices"
	"strings"
	"testing"

	"innkeeper/api"
	"innkeeper/lexer"
	"innkeeper/parser"
	"innkeeper/printer"
)

// text returns the text of an expression, which is well-formed.
func text(t *testing.T, e api.Expr) string {
	t.Helper()
	s, f := printer.Expr(e)
	if f != api.OK {
		t.Fatalf("Expr(%s) = %q, %v", show(e), s, f)
	}
	return s
}

// rateText returns the text of a rate, which can be written.
func rateText(t *testing.T, r api.Rate) string {
	t.Helper()
	s, e := printer.Rate(r)
	if e != api.OK {
		t.Fatalf("Rate(%s) = %q, %v", show(r), s, e)
	}
	return s
}

// textOfAll returns the texts of rates, one after the other with line feeds between them.
func textOfAll(t *testing.T, l []api.Rate) string {
	t.Helper()
	var texts []string
	for _, r := range l {
		texts = append(texts, rateText(t, r))
	}
	return strings.Join(texts, "\n")
}

// sameRate reports whether two rates are equal.
func sameRate(a, b api.Rate) bool {
	fine := same(a.When, b.When) && same(a.Price, b.Price)
	return fine && a.ID == b.ID && a.Level == b.Level && a.Kind == b.Kind && a.Season == b.Season && a.Least == b.Least && a.Most == b.Most && a.Arrive == b.Arrive && a.Keep == b.Keep
}

// reads reports whether a source is read as an expression.
func reads(s string, e api.Expr) bool {
	got, f := parser.Expr(s)
	return f == api.OK && same(got, e)
}

// wantRead checks that a source is read as rates.
func wantRead(t *testing.T, s string, l []api.Rate) {
	t.Helper()
	if got, e, line := parser.Rates(s); e != api.OK || !slices.EqualFunc(got, l, sameRate) {
		t.Fatalf("%.500q is read as %s, %v, %d; want %s", s, show(got), e, line, show(l))
	}
}

// twos returns all expressions of an operator, one of whose parts is an operator, and all other parts numbers.
func twos() []api.Expr {
	numbers := []api.Expr{number(1), number(2), number(3)}
	var l []api.Expr
	for outer := api.OpAdd; outer <= api.OpNot; outer++ {
		for inner := api.OpAdd; inner <= api.OpNot; inner++ {
			for i := range wanted(outer) {
				kids := slices.Clone(numbers[:len(wanted(outer))])
				kids[i] = op(inner, numbers[:len(wanted(inner))]...)
				l = append(l, op(outer, kids...))
			}
		}
	}
	return l
}

// TestModel checks P9.1: texts of all pairs of operators, and of random expressions and rates, against the chapter's table.
func TestModel(t *testing.T) {
	for _, e := range twos() {
		wantText(t, e, expect(e))
	}
	r := rand.New(rand.NewSource(91))
	sizes := map[string]int{}
	for range 5000 {
		e := someExpr(r, 1+r.Intn(200))
		wantText(t, e, expect(e))
		if len(nodes(e)) > 150 {
			sizes["large"]++
		}
		if depth(e) == 30 {
			sizes["deep"]++
		}
		x, percent := someRate(r, 20)
		wantRate(t, x, expectRate(x, percent))
	}
	if sizes["large"] < 100 || sizes["deep"] < 20 {
		t.Errorf("expressions are too small: %v", sizes)
	}
}

// TestExpressions checks P9.2: each expression is read from its text.
func TestExpressions(t *testing.T) {
	r := rand.New(rand.NewSource(92))
	l := twos()
	for range 5000 {
		l = append(l, someExpr(r, 1+r.Intn(200)))
	}
	for _, e := range l {
		if s := text(t, e); !reads(s, e) {
			t.Fatalf("%s has the text %q", show(e), s)
		}
	}
}

// TestRates checks P9.3: rates are read from their texts, unless these are too long or too many.
func TestRates(t *testing.T) {
	r := rand.New(rand.NewSource(93))
	seen := map[api.Errno]int{}
	for range 300 {
		var l []api.Rate
		for range r.Intn(40) {
			x, _ := someRate(r, 100)
			l = append(l, x)
		}
		s := textOfAll(t, l)
		_, e, _ := lexer.Tokens(s)
		if e == api.OK {
			wantRead(t, s, l)
		}
		seen[e]++
	}
	if seen[api.OK] < 50 || seen[api.ErrLimit] < 50 || len(seen) > 2 {
		t.Errorf("lists by errors of tokens: %v; want many that fit, many that are too long, and no others", seen)
	}
	wantRead(t, "", nil)
}

// short returns so many rates, with a price that has so many parts.
func short(many, parts int) []api.Rate {
	price, _ := chain(parts)
	return slices.Repeat([]api.Rate{{Keep: api.Rat{N: 0, D: 1}, When: number(1), Price: price}}, many)
}

// TestLimits checks P9.3 with as many rates, bytes and tokens as can be read, and one more.
func TestLimits(t *testing.T) {
	check := func(name string, l []api.Rate, fits bool) {
		t.Helper()
		s := textOfAll(t, l)
		if fits {
			wantRead(t, s, l)
		} else if got, e, _ := parser.Rates(s); len(got) > 0 || e != api.ErrLimit {
			t.Errorf("%s: %d rates, %v", name, len(got), e)
		}
	}
	check("100 rates", short(100, 1), true)
	check("101 rates", short(101, 1), false)
	// A rate has 24 tokens, and two more for each part of its price after the first one.
	l := short(100, 14)
	check("5000 tokens", l, true)
	l[99].When = op(api.OpNot, number(1))
	check("5001 tokens", l, false)
	// Amounts are long tokens, so that there are fewer than 5000 of them.
	l = short(100, 1)
	for i := 0; len(textOfAll(t, l)) < 19990; i++ {
		l[i%100].Price = op(api.OpSub, l[i%100].Price, amount(1000000000))
	}
	for _, r := range []*api.Rate{&l[0], &l[99]} {
		for r.ID < 100000000 && len(textOfAll(t, l)) < 20000 {
			r.ID = r.ID*10 + 1
		}
	}
	if n := len(textOfAll(t, l)); n != 20000 {
		t.Fatalf("%d bytes", n)
	}
	check("20000 bytes", l, true)
	l[50].Keep = api.Rat{N: 1, D: 10}
	check("20001 bytes", l, false)
}

// TestOneText checks P9.4: what is read from any source is written as a text that is read as the same, and written the same way.
func TestOneText(t *testing.T) {
	r := rand.New(rand.NewSource(94))
	others := 0
	for range 3000 {
		source := generous(r, someExpr(r, 1+r.Intn(60)))
		e, f := parser.Expr(source)
		if f != api.OK {
			t.Fatalf("%q is %v", source, f)
		}
		s := text(t, e)
		if s != source {
			others++
		}
		again, f := parser.Expr(s)
		if f != api.OK || !same(e, again) || text(t, again) != s {
			t.Fatalf("%q is written as %q, and that as %v, %v", source, s, again, f)
		}
	}
	if others < 1000 {
		t.Errorf("only %d sources were not texts", others)
	}
	for range 1000 {
		source := ""
		for range r.Intn(5) {
			x, percent := someRate(r, 20)
			source += spaced(r, expectRate(x, percent)) + []string{"", " ", "\n", "# rate\n", " #\n\n"}[r.Intn(5)]
		}
		l, e, _ := parser.Rates(source)
		s := textOfAll(t, l)
		if e != api.OK || len(s) > 20000 {
			t.Fatalf("%q is %v, and written with %d bytes", source, e, len(s))
		}
		again, _, _ := parser.Rates(s)
		wantRead(t, s, l)
		if u := textOfAll(t, again); u != s {
			t.Fatalf("%q is written as %q, and then as %q", source, s, u)
		}
	}
	// A source without blanks can be read, although its text is too long; each of its rates is still read from its own.
	l := short(60, 1)
	for i := range l {
		for range 29 {
			l[i].Price = op(api.OpAdd, l[i].Price, amount(100000))
		}
	}
	long := textOfAll(t, l)
	wantRead(t, strings.ReplaceAll(long, " + ", "+"), l)
	if got, e, _ := parser.Rates(long); len(got) > 0 || e != api.ErrLimit {
		t.Errorf("%d bytes are read as %d rates, %v", len(long), len(got), e)
	}
	for _, x := range l {
		wantRead(t, rateText(t, x), []api.Rate{x})
	}
}

// without returns a text without the brackets at two places.
func without(s string, open, closed int) string {
	return s[:open] + " " + s[open+1:closed] + " " + s[closed+1:]
}

// closing returns where the bracket ends that begins at a place.
func closing(s string, open int) int {
	deep := 0
	for i := open; i < len(s); i++ {
		switch s[i] {
		case '(':
			deep++
		case ')':
			if deep--; deep == 0 {
				return i
			}
		}
	}
	return len(s) - 1
}

// TestCounts checks P9.5: how many brackets there are.
func TestCounts(t *testing.T) {
	r := rand.New(rand.NewSource(95))
	l := twos()
	for range 3000 {
		l = append(l, someExpr(r, 1+r.Intn(200)))
	}
	for _, e := range l {
		want := 0
		for _, n := range nodes(e) {
			if n.Op == api.OpMin || n.Op == api.OpMax {
				want++
			}
			for i, least := range wanted(n.Op) {
				if low(n.Kids[i], least) {
					want++
				}
			}
		}
		s := text(t, e)
		if strings.Count(s, "(") != want || strings.Count(s, ")") != want {
			t.Fatalf("%q has not %d brackets", s, want)
		}
	}
}

// TestNeeded checks P9.5 without any rank: each bracket is needed, as without it something else is read, or nothing.
func TestNeeded(t *testing.T) {
	r := rand.New(rand.NewSource(951))
	l := twos()
	for range 1500 {
		l = append(l, someExpr(r, 1+r.Intn(60)))
	}
	found := 0
	for _, e := range l {
		s := text(t, e)
		for i := range s {
			if s[i] != '(' {
				continue
			}
			found++
			if u := without(s, i, closing(s, i)); reads(u, e) {
				t.Fatalf("%q is read as %q", s, u)
			}
		}
	}
	if found < 1000 {
		t.Errorf("only %d brackets", found)
	}
}

// TestDifferentTexts checks P9.6: no two of many small expressions have the same text, nor any of random ones.
func TestDifferentTexts(t *testing.T) {
	leaves := []api.Expr{number(0), number(1), number(100), amount(0), amount(1), amount(100), amount(10000), variable(1), variable(2), variable(3), variable(4)}
	l := slices.Concat(leaves, twos(), level(leaves))
	few := []api.Expr{number(1), amount(100)}
	few = append(few, level(few)...)
	l = append(l, level(few[:20])...)
	l = append(l, level([]api.Expr{few[1], few[20], few[30], few[40], few[50], few[len(few)-1]})...)
	r := rand.New(rand.NewSource(96))
	for range 5000 {
		l = append(l, someExpr(r, 1+r.Intn(8)))
	}
	known := map[string]api.Expr{}
	for _, e := range l {
		s := text(t, e)
		if other, there := known[s]; there && !same(other, e) {
			t.Fatalf("%v and %v are both %q", e, other, s)
		}
		known[s] = e
	}
	if len(known) < 4000 {
		t.Errorf("only %d texts", len(known))
	}
}

// level returns all expressions whose parts are some expressions.
func level(parts []api.Expr) []api.Expr {
	var l []api.Expr
	for o := api.OpAdd; o <= api.OpNot; o++ {
		for _, kids := range tuples(parts, len(wanted(o))) {
			l = append(l, op(o, kids...))
		}
	}
	return l
}

// tuples returns all lists of so many of some expressions.
func tuples(l []api.Expr, many int) [][]api.Expr {
	if many == 0 {
		return [][]api.Expr{nil}
	}
	var all [][]api.Expr
	for _, rest := range tuples(l, many-1) {
		for _, e := range l {
			all = append(all, append(slices.Clone(rest), e))
		}
	}
	return all
}

// TestParts checks P9.7: the text of a rate ends with those of its expressions.
func TestParts(t *testing.T) {
	r := rand.New(rand.NewSource(97))
	for range 2000 {
		x, percent := someRate(r, 100)
		s := rateText(t, x)
		end := " keep " + fmt.Sprint(percent) + "% when " + text(t, x.When) + " price " + text(t, x.Price) + ";"
		if !strings.HasSuffix(s, end) {
			t.Fatalf("%q does not end with %q", s, end)
		}
		other := x
		other.When, other.Price = number(1), number(1)
		if rest := strings.TrimSuffix(rateText(t, other), " when 1 price 1;"); !strings.HasPrefix(s, rest+" when ") {
			t.Fatalf("%q does not begin with %q", s, rest)
		}
	}
}

// TestDamaged checks P9.1: texts are those of the expressions that are well-formed, and of no others.
func TestDamaged(t *testing.T) {
	r := rand.New(rand.NewSource(911))
	numbers := []int{math.MinInt, -1, 0, 1, 2, 4, 5, 16, 999999999, 1000000000, 1000000001, math.MaxInt}
	seen := map[bool]int{}
	for range 10000 {
		e := someExpr(r, 1+r.Intn(30))
		at := &e
		for len(at.Kids) > 0 && r.Intn(4) > 0 {
			at = &at.Kids[r.Intn(len(at.Kids))]
		}
		switch r.Intn(4) {
		case 0:
			at.N = numbers[r.Intn(len(numbers))]
		case 1:
			at.Op = r.Intn(18) - 1
		case 2:
			at.Kids = append(at.Kids, number(1))
		case 3:
			at.Kids = at.Kids[:len(at.Kids)/2]
		}
		valid := parser.Valid(e)
		x, _ := someRate(r, 3)
		x.When = e
		seen[valid]++
		if valid {
			wantText(t, e, expect(e))
			continue
		}
		wantNoText(t, e)
		wantNoRate(t, x)
		x.When, x.Price = x.Price, x.When
		wantNoRate(t, x)
	}
	if seen[true] < 1000 || seen[false] < 1000 {
		t.Errorf("results: %v; want many of both", seen)
	}
}

// TestAllArguments checks P1: no call panics, and all end, whatever the argument is.
func TestAllArguments(t *testing.T) {
	// Parts that are the same, so that there are more nodes than could be counted, and parts of themselves.
	many := number(1)
	for range 100 {
		many = op(api.OpAdd, many, many)
	}
	around := api.Expr{Op: api.OpIf, Kids: make([]api.Expr, 3)}
	for i := range around.Kids {
		around.Kids[i] = around
	}
	deep := number(1)
	for range 1000000 {
		deep = op(api.OpNot, deep)
	}
	broad := api.Expr{Op: api.OpAdd, Kids: make([]api.Expr, 1000000)}
	for _, e := range []api.Expr{many, around, deep, broad} {
		wantNoText(t, e)
		wantNoRate(t, api.Rate{Keep: api.Rat{N: 0, D: 1}, When: e, Price: number(1)})
		wantNoRate(t, api.Rate{Keep: api.Rat{N: 0, D: 1}, When: number(1), Price: e})
	}
	numbers := []int{math.MinInt, -1, 0, 1, 100, 999999999, 1000000000, math.MaxInt}
	r := rand.New(rand.NewSource(98))
	any := func() int { return numbers[r.Intn(len(numbers))] }
	for range 20000 {
		x := api.Rate{ID: any(), Level: any(), Kind: any(), Season: api.Span{From: any(), Until: any()}, Least: any(), Most: any(), Arrive: any(), Keep: api.Rat{N: any(), D: any()}, When: number(any()), Price: amount(any())}
		s, e := printer.Rate(x)
		if (s == "") != (e != api.OK) || e != api.OK && e != api.ErrArg {
			t.Fatalf("Rate(%v) = %q, %v", x, s, e)
		}
	}
	wantNoRate(t, api.Rate{})
}

// TestArgumentsStay checks the document's Rules: calls change no argument, and are repeatable.
func TestArgumentsStay(t *testing.T) {
	r := rand.New(rand.NewSource(99))
	for range 300 {
		x, percent := someRate(r, 30)
		want := expectRate(x, percent)
		wantRate(t, x, want)
		wantText(t, x.When, expect(x.When))
		wantRate(t, x, want)
		if expectRate(x, percent) != want {
			t.Fatalf("Rate left %v", x)
		}
	}
}
