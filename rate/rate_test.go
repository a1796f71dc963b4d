package rate_test

import (
	"fmt"
	"math"
	"slices"
	"strings"
	"testing"

	"innkeeper/api"
	"innkeeper/parser"
	"innkeeper/rate"
	"innkeeper/types"
)

// example is the rate of the chapter's example.
const example = "rate 7 level 1 kind 2 nights 10 to 40 stay 2 to 9 arrive 127 keep 50% when nights < 5 price 100.00 + 20.00 * persons;"

// always is a rate that applies whenever its kind is asked for, without its price.
const always = "rate 1 level 0 kind 1 nights 0 to 366 stay 1 to 60 arrive 127 keep 0% when 1 = 1 price "

// show returns the beginning of what a value looks like.
func show(x any) string { return fmt.Sprintf("%.400s", fmt.Sprint(x)) }

// read returns the expression of a source.
func read(t *testing.T, s string) api.Expr {
	t.Helper()
	e, f := parser.Expr(s)
	if f != api.OK {
		t.Fatalf("%q is %v", s, f)
	}
	return e
}

// rates returns the rates of a source, which can be used together.
func rates(t *testing.T, s string) []api.Rate {
	t.Helper()
	l, e, line := parser.Rates(s)
	if e != api.OK || !types.Valid(l) {
		t.Fatalf("%q is %v in line %d, or cannot be used", s, e, line)
	}
	return l
}

// changed returns the example with changes: pairs of an old text and a new one.
func changed(t *testing.T, pairs ...string) api.Rate {
	t.Helper()
	return rates(t, strings.NewReplacer(pairs...).Replace(example))[0]
}

// wantValue checks the value of an expression, or the error.
func wantValue(t *testing.T, e api.Expr, vars [4]int, want api.Rat, wrong api.Errno) {
	t.Helper()
	if got, f := rate.Eval(e, vars); got != want || f != wrong {
		t.Errorf("Eval(%s, %v) = %v, %v; want %v, %v", show(e), vars, got, f, want, wrong)
	}
}

// wantApplies checks whether a rate applies, or the error.
func wantApplies(t *testing.T, r api.Rate, a api.Ask, night int, want bool, wrong api.Errno) {
	t.Helper()
	if got, e := rate.Applies(r, a, night); got != want || e != wrong {
		t.Errorf("Applies(%s, %v, %d) = %v, %v; want %v, %v", show(r), a, night, got, e, want, wrong)
	}
}

// wantNight checks the price of a night and the rate that decides it, or the error.
func wantNight(t *testing.T, l []api.Rate, a api.Ask, night, cents, id int, wrong api.Errno) {
	t.Helper()
	if got, by, e := rate.Night(l, a, night); got != cents || by != id || e != wrong {
		t.Errorf("Night(%s, %v, %d) = %d, %d, %v; want %d, %d, %v", show(l), a, night, got, by, e, cents, id, wrong)
	}
}

// wantPrice checks the price of an ask and what is kept, or the error.
func wantPrice(t *testing.T, l []api.Rate, a api.Ask, nights []int, keep int, wrong api.Errno) {
	t.Helper()
	if got, kept, e := rate.Price(l, a); !slices.Equal(got, nights) || kept != keep || e != wrong {
		t.Errorf("Price(%s, %v) = %v, %d, %v; want %v, %d, %v", show(l), a, got, kept, e, nights, keep, wrong)
	}
}

// TestExample checks P11.1 with the chapter's example.
func TestExample(t *testing.T) {
	l := rates(t, example)
	a := api.Ask{Kind: 2, From: 12, Until: 15, Persons: 2}
	wantPrice(t, l, a, []int{14000, 14000, 14000}, 21000, api.OK)
	for night := 12; night < 15; night++ {
		wantApplies(t, l[0], a, night, true, api.OK)
		wantNight(t, l, a, night, 14000, 7, api.OK)
	}
	a.Until = 17
	wantPrice(t, l, a, nil, 0, api.ErrNone)
	for night := 12; night < 17; night++ {
		wantApplies(t, l[0], a, night, false, api.OK)
		wantNight(t, l, a, night, 0, 0, api.ErrNone)
	}
}

// TestValues checks P11.1 for K1, and P11.2: values for 5 nights, 3 persons, the third night (2), a Saturday (5).
func TestValues(t *testing.T) {
	for s, want := range map[string]api.Rat{
		"0": {N: 0, D: 1}, "7": {N: 7, D: 1}, "999999999": {N: 999999999, D: 1},
		"0.00": {N: 0, D: 1}, "1.05": {N: 105, D: 1}, "10000000.00": {N: 1000000000, D: 1},
		"nights": {N: 5, D: 1}, "persons": {N: 3, D: 1}, "night": {N: 2, D: 1}, "weekday": {N: 5, D: 1},
		"1 + 2": {N: 3, D: 1}, "1.00 + 2.50": {N: 350, D: 1}, "1 - 2": {N: -1, D: 1}, "1.00 - 2.50": {N: -150, D: 1},
		"2 * 3": {N: 6, D: 1}, "1.50 * 3": {N: 450, D: 1}, "3 * 1.50": {N: 450, D: 1}, "(0 - 2) * (0 - 3)": {N: 6, D: 1},
		"1 / 3": {N: 1, D: 3}, "2 / 6": {N: 1, D: 3}, "0 / 6": {N: 0, D: 1}, "6 / 3": {N: 2, D: 1}, "1.00 / 3": {N: 100, D: 3}, "1.00 / (0 - 3)": {N: -100, D: 3}, "(0 - 1) / (0 - 3)": {N: 1, D: 3}, "1 / (1 / 3)": {N: 3, D: 1}, "2 / 3 / (4 / 5)": {N: 5, D: 6},
		"1 / 3 + 1 / 6": {N: 1, D: 2}, "1 / 3 - 1 / 2": {N: -1, D: 6}, "2 / 3 * (3 / 4)": {N: 1, D: 2}, "1 / 3 * 3": {N: 1, D: 1},
		"min(1, 2)": {N: 1, D: 1}, "min(2, 1)": {N: 1, D: 1}, "max(1, 2)": {N: 2, D: 1}, "max(2, 1)": {N: 2, D: 1}, "min(2, 2)": {N: 2, D: 1}, "max(0 - 2, 0 - 3)": {N: -2, D: 1}, "min(1 / 2, 1 / 3)": {N: 1, D: 3}, "max(1.00, 2.00)": {N: 200, D: 1},
		"1 < 2": {N: 1, D: 1}, "2 < 1": {N: 0, D: 1}, "2 < 2": {N: 0, D: 1}, "1.00 < 1.01": {N: 1, D: 1}, "1 / 3 < 1 / 2": {N: 1, D: 1}, "1 / 2 < 1 / 3": {N: 0, D: 1}, "0 - 1 < 0 - 2": {N: 0, D: 1},
		"1 = 2": {N: 0, D: 1}, "2 = 2": {N: 1, D: 1}, "2.00 = 2.00": {N: 1, D: 1}, "1 / 3 = 2 / 6": {N: 1, D: 1}, "2 = 1": {N: 0, D: 1},
		"1 = 1 and 1 = 1": {N: 1, D: 1}, "1 = 1 and 1 = 2": {N: 0, D: 1}, "1 = 2 and 1 = 1": {N: 0, D: 1}, "1 = 2 and 1 = 2": {N: 0, D: 1},
		"1 = 1 or 1 = 1": {N: 1, D: 1}, "1 = 1 or 1 = 2": {N: 1, D: 1}, "1 = 2 or 1 = 1": {N: 1, D: 1}, "1 = 2 or 1 = 2": {N: 0, D: 1},
		"not 1 = 1": {N: 0, D: 1}, "not 1 = 2": {N: 1, D: 1}, "not not 1 = 1": {N: 1, D: 1},
		"if 1 = 1 then 2 else 3": {N: 2, D: 1}, "if 1 = 2 then 2 else 3": {N: 3, D: 1}, "if 1 = 1 then 2.00 else 3.00": {N: 200, D: 1}, "if 1 = 1 then 1 = 2 else 1 = 1": {N: 0, D: 1}, "if 1 = 2 then 1 = 2 else 1 = 1": {N: 1, D: 1},
		"if (if nights < 3 then weekday = 5 else weekday < 5) then 1 else if night = 2 then 20 else 30": {N: 20, D: 1},
		"10.00 * nights - 1.00 * persons * night / weekday":                                             {N: 4880, D: 1},
		"weekday = 5 or weekday = 6 and nights < 2":                                                     {N: 1, D: 1},
		"(weekday = 5 or weekday = 6) and nights < 2":                                                   {N: 0, D: 1},
	} {
		wantValue(t, read(t, s), [4]int{5, 3, 2, 5}, want, api.OK)
	}
}

// TestRanges checks P11.1 for K1: values at the ends of what ratios can be, and beyond.
func TestRanges(t *testing.T) {
	const big = "10000000.00" // 1000000000 cents
	for s, want := range map[string]api.Rat{
		big + " + 0.00": {N: 1000000000, D: 1}, "9999999.99 + 0.01": {N: 1000000000, D: 1}, "999999999 + 1": {N: 1000000000, D: 1},
		"0.00 - " + big: {N: -1000000000, D: 1}, big + " / 1000000": {N: 1000, D: 1}, "9999999.99 / 1000000": {N: 999999999, D: 1000000},
		"1 / 1000000": {N: 1, D: 1000000}, "1 / 1000 / 1000": {N: 1, D: 1000000}, "0.01 * (1 / 1000000)": {N: 1, D: 1000000},
		big + " / 999999999": {}, "999999999 / 999999999": {N: 1, D: 1}, "1 / 999999999": {}, "1 / 1000001": {}, "1000001 / 1000001": {N: 1, D: 1},
		"(999999999 + 1) / (999999999 + 1)": {N: 1, D: 1}, "1 / (999999999 + 1)": {}, "(999999999 + 1) / 2000000 * 2": {N: 1000, D: 1},
		"999999999 / (1 / 2)": {}, "499999999 / (1 / 2)": {N: 999999998, D: 1}, "500000000 / (1 / 2)": {N: 1000000000, D: 1}, "500000001 / (1 / 2)": {}, "999999999 / (999999999 / 1000000)": {N: 1000000, D: 1},
		big + " + 0.01": {}, "999999999 + 2": {}, "0 - 999999999 - 1": {N: -1000000000, D: 1}, "0 - 999999999 - 2": {}, "0.00 - " + big + " - 0.01": {},
		"31622 * 31622": {N: 999950884, D: 1}, "31623 * 31623": {}, big + " * 2": {}, big + " * (1 / 2)": {N: 500000000, D: 1}, "1 / 1000 * (1 / 1001)": {}, "1 / 1000001 * 1000001": {},
		"1 / 999999 + 1 / 1000000": {}, "1 / 999999 - 1 / 1000000": {}, "1 / 500000 + 1 / 1000000": {N: 3, D: 1000000}, "999999999 / 1000000 + 999999999 / 1000000": {N: 999999999, D: 500000},
		"0 * 999999999": {N: 0, D: 1}, "0 / 999999999": {N: 0, D: 1},
		// What is neither computed nor chosen does not count; what is computed does, even if nothing depends on it.
		"min(999999999 + 2, 1)": {}, "max(1, 0 - 999999999 - 2)": {}, "if 1 = 1 then 1 else 999999999 + 2": {N: 1, D: 1}, "if 1 = 2 then 999999999 + 2 else 1": {N: 1, D: 1},
		"1 = 1 or 999999999 + 2 = 1": {}, "1 = 2 and 999999999 + 2 = 1": {}, "0 * (999999999 + 2)": {}, "999999999 + 2 - 2": {}, "999999999 - 2 + 2": {N: 999999999, D: 1},
	} {
		wrong := api.OK
		if want == (api.Rat{}) {
			wrong = api.ErrRange
		}
		wantValue(t, read(t, s), [4]int{1, 1, 0, 0}, want, wrong)
	}
}

// TestFirstError checks P11.1 for K1: division by 0, and which error counts.
func TestFirstError(t *testing.T) {
	const zero, far = "1 / 0", "1 / 999999999"
	for s, wrong := range map[string]api.Errno{
		zero: api.ErrPrice, "1.00 / 0": api.ErrPrice, "0 / 0": api.ErrPrice, "1 / night": api.ErrPrice, "1 / (2 - 2)": api.ErrPrice, "1 / (0 / 5)": api.ErrPrice, "1 / weekday": api.ErrPrice, "1 / nights": api.OK, "1 / persons": api.OK,
		far: api.ErrRange, zero + " + " + far: api.ErrPrice, far + " + " + zero: api.ErrRange, "(" + far + ") / 0": api.ErrRange, "1 / (" + far + ")": api.ErrRange, "(999999999 + 2) / (1 / 0)": api.ErrRange, "(1 / 0) / (999999999 + 2)": api.ErrPrice,
		zero + " - " + far: api.ErrPrice, far + " - " + zero: api.ErrRange, "(1 / 0) * (" + far + ")": api.ErrPrice, "(" + far + ") * (1 / 0)": api.ErrRange,
		"min(1 / 0, " + far + ")": api.ErrPrice, "min(" + far + ", 1 / 0)": api.ErrRange, "max(1 / 0, " + far + ")": api.ErrPrice, "max(" + far + ", 1 / 0)": api.ErrRange, "min(1, 1 / 0)": api.ErrPrice, "max(1 / 0, 1)": api.ErrPrice,
		zero + " < " + far: api.ErrPrice, far + " < " + zero: api.ErrRange, zero + " = " + far: api.ErrPrice, far + " = " + zero: api.ErrRange,
		"1 = 2 and 1 / 0 = 1": api.ErrPrice, "1 / 0 = 1 and 1 = 2": api.ErrPrice, "1 = 1 or 1 / 0 = 1": api.ErrPrice, "1 / 0 = 1 or 1 = 1": api.ErrPrice, "not 1 / 0 = 1": api.ErrPrice,
		"1 / 0 = 1 and " + far + " = 1": api.ErrPrice, far + " = 1 or 1 / 0 = 1": api.ErrRange,
		"if 1 / 0 = 1 then " + far + " else " + far: api.ErrPrice, "if " + far + " = 1 then 1 / 0 else 1 / 0": api.ErrRange, "if 1 = 1 then 1 / 0 else " + far: api.ErrPrice, "if 1 = 2 then 1 / 0 else " + far: api.ErrRange,
		"if 1 = 1 then 1 else 1 / 0": api.OK, "if 1 = 2 then 1 / 0 else 1": api.OK, "if night = 0 then 1 else 1 / night": api.OK,
		"1.00 * 1 / 0": api.ErrPrice, "0 * (1 / 0)": api.ErrPrice,
	} {
		got, e := rate.Eval(read(t, s), [4]int{1, 1, 0, 0})
		if e != wrong || (e != api.OK) != (got == api.Rat{}) {
			t.Errorf("%q is %v, %v; want %v", s, got, e, wrong)
		}
	}
}

// TestEvalArguments checks P11.1 for K1: expressions without a type, and variables that are none.
func TestEvalArguments(t *testing.T) {
	fine := [4]int{1, 1, 0, 0}
	for _, s := range []string{"1.00 + 1", "not 1", "1 / 1.00", "1.00 * 1.00", "if 1 then 2 else 3", "1 / 0 + 1.00", "if 1 = 1 then 2 else 3.00"} {
		wantValue(t, read(t, s), fine, api.Rat{}, api.ErrArg)
	}
	one := api.Expr{Op: api.OpNumber, N: 1}
	deep := one
	for range 30 {
		deep = api.Expr{Op: api.OpAdd, Kids: []api.Expr{one, deep}}
	}
	wantValue(t, deep.Kids[1], fine, api.Rat{N: 30, D: 1}, api.OK)
	for _, e := range []api.Expr{{}, {Op: -1}, {Op: 16}, {Op: api.OpNumber, N: -1}, {Op: api.OpNumber, N: 1000000000}, {Op: api.OpMoney, N: 1000000001}, {Op: api.OpVar}, {Op: api.OpVar, N: 5}, {Op: api.OpAdd}, {Op: api.OpAdd, Kids: []api.Expr{one}}, {Op: api.OpNot, Kids: []api.Expr{{}}}, deep} {
		wantValue(t, e, fine, api.Rat{}, api.ErrArg)
	}
	ends := [4][2]int{{1, 60}, {1, 8}, {0, 59}, {0, 6}}
	for i, end := range ends {
		e := api.Expr{Op: api.OpVar, N: i + 1}
		for _, n := range []int{end[0], end[0] + 1, end[1] - 1, end[1]} {
			vars := fine
			vars[i] = n
			wantValue(t, e, vars, api.Rat{N: n, D: 1}, api.OK)
		}
		for _, n := range []int{end[0] - 1, end[1] + 1, -1, 61, math.MinInt, math.MaxInt, 1<<32 + end[0]} {
			vars := fine
			vars[i] = n
			wantValue(t, e, vars, api.Rat{}, api.ErrArg)
			// Whether they are needed or not, and before any error of computing.
			wantValue(t, one, vars, api.Rat{}, api.ErrArg)
			wantValue(t, read(t, "1 / 0"), vars, api.Rat{}, api.ErrArg)
			wantValue(t, read(t, "999999999 + 2"), vars, api.Rat{}, api.ErrArg)
		}
	}
	// Each of them is one by itself: the tenth night of a stay of one night.
	wantValue(t, read(t, "night - nights"), [4]int{1, 1, 10, 0}, api.Rat{N: 9, D: 1}, api.OK)
}

// TestConditions checks P11.1 for K2: each of the conditions, at its ends.
func TestConditions(t *testing.T) {
	ask := api.Ask{Kind: 2, From: 12, Until: 15, Persons: 2} // Night 12 is a Tuesday.
	for _, x := range []struct {
		change string
		to     string
		want   bool
	}{
		{"kind 2", "kind 1", false}, {"kind 2", "kind 3", false},
		{"10 to 40", "13 to 40", true}, {"10 to 40", "13 to 14", true}, {"10 to 40", "0 to 14", true}, {"10 to 40", "14 to 40", false}, {"10 to 40", "0 to 13", false}, {"10 to 40", "0 to 12", false}, {"10 to 40", "15 to 16", false},
		{"2 to 9", "3 to 9", true}, {"2 to 9", "1 to 3", true}, {"2 to 9", "3 to 3", true}, {"2 to 9", "4 to 9", false}, {"2 to 9", "1 to 2", false},
		{"127", "2", true}, {"127", "1", false}, {"127", "4", false}, {"127", "125", false}, {"127", "3", true}, {"127", "124", false}, {"127", "126", true},
		{"nights < 5", "nights = 3", true}, {"nights < 5", "nights = 2", false}, {"nights < 5", "persons = 2", true}, {"nights < 5", "persons = 1", false},
		{"nights < 5", "night = 1", true}, {"nights < 5", "night = 2", false}, {"nights < 5", "weekday = 2", true}, {"nights < 5", "weekday = 1", false}, {"nights < 5", "not nights < 5", false},
		{"level 1", "level 100", true}, {"rate 7", "rate 1000000", true}, {"50%", "0%", true}, {"100.00 + 20.00 * persons", "0.00 - 1.00", true}, {"100.00 + 20.00 * persons", "1.00 / 0", true},
	} {
		wantApplies(t, changed(t, x.change, x.to), ask, 13, x.want, api.OK)
	}
	// The weekday of the arrival is that of From, for all nights.
	for from := range 14 {
		for day := range 7 {
			r := changed(t, "10 to 40", "0 to 366", "127", fmt.Sprint(1<<day))
			for night := from; night < from+3; night++ {
				wantApplies(t, r, api.Ask{Kind: 2, From: from, Until: from + 3, Persons: 1}, night, day == (from+3)%7, api.OK)
			}
		}
	}
}

// TestConditionErrors checks P11.1 for K2: the value of When counts only if all else is so.
func TestConditionErrors(t *testing.T) {
	ask := api.Ask{Kind: 2, From: 12, Until: 15, Persons: 2}
	for s, wrong := range map[string]api.Errno{"1 / 0 = 1": api.ErrPrice, "999999999 + 2 = 1": api.ErrRange, "1 = 1 or 1 / (night - 1) = 1": api.ErrPrice} {
		wantApplies(t, changed(t, "nights < 5", s), ask, 13, false, wrong)
		for _, pair := range [][2]string{{"kind 2", "kind 1"}, {"10 to 40", "14 to 40"}, {"10 to 40", "0 to 13"}, {"2 to 9", "4 to 9"}, {"2 to 9", "1 to 2"}, {"127", "125"}} {
			wantApplies(t, changed(t, "nights < 5", s, pair[0], pair[1]), ask, 13, false, api.OK)
		}
	}
	// The error is that of this night alone.
	r := changed(t, "nights < 5", "1 / (night - 1) < 5")
	wantApplies(t, r, ask, 12, true, api.OK)
	wantApplies(t, r, ask, 13, false, api.ErrPrice)
	wantApplies(t, r, ask, 14, true, api.OK)
}

// badAsks are asks that are not well-formed.
var badAsks = []api.Ask{
	{}, {Kind: 0, From: 0, Until: 1, Persons: 1}, {Kind: 21, From: 0, Until: 1, Persons: 1}, {Kind: -1, From: 0, Until: 1, Persons: 1}, {Kind: math.MaxInt, From: 0, Until: 1, Persons: 1},
	{Kind: 1, From: -1, Until: 1, Persons: 1}, {Kind: 1, From: 1, Until: 1, Persons: 1}, {Kind: 1, From: 2, Until: 1, Persons: 1}, {Kind: 1, From: 366, Until: 367, Persons: 1}, {Kind: 1, From: 365, Until: 367, Persons: 1}, {Kind: 1, From: math.MinInt, Until: 1, Persons: 1}, {Kind: 1, From: math.MinInt, Until: math.MaxInt, Persons: 1}, {Kind: 1, From: 0, Until: math.MaxInt, Persons: 1}, {Kind: 1, From: math.MaxInt, Until: math.MinInt, Persons: 1},
	{Kind: 1, From: 0, Until: 61, Persons: 1}, {Kind: 1, From: 305, Until: 366, Persons: 1}, {Kind: 1, From: 0, Until: 366, Persons: 1},
	{Kind: 1, From: 0, Until: 1, Persons: 0}, {Kind: 1, From: 0, Until: 1, Persons: 9}, {Kind: 1, From: 0, Until: 1, Persons: -1}, {Kind: 1, From: 0, Until: 1, Persons: math.MinInt},
}

// TestAsks checks P11.1 for K2 to K4: which asks are well-formed, and which nights are theirs.
func TestAsks(t *testing.T) {
	l := rates(t, always+"1.00;")
	for _, a := range badAsks {
		for _, night := range []int{a.From, a.Until - 1, 0} {
			wantApplies(t, l[0], a, night, false, api.ErrArg)
			wantNight(t, l, a, night, 0, 0, api.ErrArg)
		}
		wantPrice(t, l, a, nil, 0, api.ErrArg)
		wantPrice(t, nil, a, nil, 0, api.ErrArg)
	}
	for _, a := range []api.Ask{{Kind: 1, From: 0, Until: 1, Persons: 1}, {Kind: 20, From: 0, Until: 60, Persons: 8}, {Kind: 1, From: 306, Until: 366, Persons: 8}, {Kind: 20, From: 365, Until: 366, Persons: 1}} {
		l[0].Kind = a.Kind
		wantPrice(t, l, a, slices.Repeat([]int{100}, a.Until-a.From), 0, api.OK)
		for _, night := range []int{a.From, (a.From + a.Until) / 2, a.Until - 1} {
			wantApplies(t, l[0], a, night, true, api.OK)
			wantNight(t, l, a, night, 100, 1, api.OK)
		}
		for _, night := range []int{a.From - 1, a.Until, a.Until + 1, -1, 366, math.MinInt, math.MaxInt} {
			wantApplies(t, l[0], a, night, false, api.ErrArg)
			wantNight(t, l, a, night, 0, 0, api.ErrArg)
			wantNight(t, nil, a, night, 0, 0, api.ErrArg)
		}
	}
}

// TestRatesUsed checks P11.1 for K2 to K4: rates that cannot be used, or not together, before all other errors.
func TestRatesUsed(t *testing.T) {
	a := api.Ask{Kind: 1, From: 0, Until: 2, Persons: 1}
	bad := func(l []api.Rate) {
		t.Helper()
		wantNight(t, l, a, 0, 0, 0, api.ErrArg)
		wantPrice(t, l, a, nil, 0, api.ErrArg)
	}
	fine := rates(t, always+"1.00;")[0]
	other := fine
	other.ID = 2
	for _, change := range []func(r *api.Rate){
		func(r *api.Rate) { *r = api.Rate{} },
		func(r *api.Rate) { r.ID = 0 },
		func(r *api.Rate) { r.Level = 101 },
		func(r *api.Rate) { r.Kind = 21 },
		func(r *api.Rate) { r.Season.Until = 367 },
		func(r *api.Rate) { r.Most = 61 },
		func(r *api.Rate) { r.Arrive = 128 },
		func(r *api.Rate) { r.Keep = api.Rat{N: 3, D: 2} },
		func(r *api.Rate) { r.When = read(t, "1") },
		func(r *api.Rate) { r.Price = read(t, "1") },
		func(r *api.Rate) { r.Price = api.Expr{} },
		func(r *api.Rate) { r.Kind, r.Season, r.When = 2, api.Span{From: 5, Until: 6}, read(t, "1.00") },
		func(r *api.Rate) { r.When, r.Price = read(t, "1 / 0 = 1"), read(t, "1") },
	} {
		r := fine
		change(&r)
		wantApplies(t, r, a, 0, false, api.ErrArg)
		bad([]api.Rate{r})
		bad([]api.Rate{other, r})
		bad([]api.Rate{r, other})
	}
	bad([]api.Rate{fine, fine})
	again := fine
	again.Kind, again.Price = 2, read(t, "2.00")
	bad([]api.Rate{fine, other, again})
	var many []api.Rate
	for i := range 101 {
		r := fine
		r.ID, r.Level = i+1, i%100
		many = append(many, r)
	}
	bad(many)
	wantNight(t, many[:100], a, 0, 100, 100, api.OK)
	wantPrice(t, many[:100], a, []int{100, 100}, 0, api.OK)
	wantNight(t, nil, a, 0, 0, 0, api.ErrNone)
	wantPrice(t, nil, a, nil, 0, api.ErrNone)
}

// TestWinner checks P11.1 for K3, and P11.4: levels and IDs, of the rates that apply alone.
func TestWinner(t *testing.T) {
	form := func(id, level, kind int, when, price string) string {
		return fmt.Sprintf("rate %d level %d kind %d nights 0 to 366 stay 1 to 60 arrive 127 keep 0%% when %s price %s;", id, level, kind, when, price)
	}
	a := api.Ask{Kind: 1, From: 3, Until: 6, Persons: 2}
	low, high, late, early := form(5, 1, 1, "1 = 1", "1.00"), form(9, 2, 1, "1 = 1", "2.00"), form(8, 1, 1, "1 = 1", "3.00"), form(2, 1, 1, "1 = 1", "4.00")
	for _, x := range []struct {
		source    string
		cents, id int
	}{
		{low, 100, 5}, {low + high, 200, 9}, {high + low, 200, 9}, {low + late, 100, 5}, {late + low, 100, 5}, {low + early, 400, 2}, {early + low, 400, 2},
		{low + early + late + high, 200, 9}, {high + late + early + low, 200, 9}, {late + early + low, 400, 2}, {low + late + early, 400, 2},
		{low + form(1, 100, 2, "1 = 1", "9.00"), 100, 5}, {low + form(1, 100, 1, "night = 0", "9.00"), 100, 5}, {low + form(1, 100, 1, "night = 1", "9.00"), 900, 1},
		{low + form(6, 0, 1, "1 = 1", "1.00 / 0"), 100, 5}, {low + form(4, 0, 1, "1 = 1", "0.00 - 1.00"), 100, 5}, {form(6, 1, 1, "1 = 1", "1.00 / 0") + low, 100, 5},
		{form(1, 0, 1, "1 = 1", "1.00") + form(1000000, 100, 1, "1 = 1", "0.00"), 0, 1000000},
	} {
		wantNight(t, rates(t, x.source), a, 4, x.cents, x.id, api.OK)
	}
	for _, x := range []struct {
		source string
		wrong  api.Errno
	}{
		{form(1, 1, 2, "1 = 1", "1.00"), api.ErrNone}, {form(1, 1, 1, "1 = 2", "1.00"), api.ErrNone},
		{low + form(6, 0, 1, "1 / 0 = 1", "1.00"), api.ErrPrice}, {low + form(6, 0, 1, "999999999 + 2 = 1", "1.00"), api.ErrRange}, {form(6, 0, 1, "1 / 0 = 1", "1.00"), api.ErrPrice},
		{form(6, 0, 1, "1 / 0 = 1", "1.00") + form(7, 9, 1, "999999999 + 2 = 1", "1.00"), api.ErrPrice}, {form(7, 9, 1, "999999999 + 2 = 1", "1.00") + form(6, 0, 1, "1 / 0 = 1", "1.00"), api.ErrRange},
		{form(6, 9, 1, "1 = 1", "1.00 / 0") + form(7, 0, 1, "999999999 + 2 = 1", "1.00"), api.ErrRange}, {form(6, 9, 1, "1 = 1", "0.00 - 1.00") + form(7, 0, 1, "999999999 + 2 = 1", "1.00"), api.ErrRange},
		{low + form(6, 2, 1, "1 = 1", "1.00 / 0"), api.ErrPrice}, {low + form(6, 2, 1, "1 = 1", "10000000.00 + 0.01"), api.ErrRange}, {low + form(6, 2, 1, "1 = 1", "0.00 - 0.01"), api.ErrPrice}, {early + form(1, 1, 1, "1 = 1", "10000000.00 + 0.01"), api.ErrRange},
	} {
		wantNight(t, rates(t, x.source), a, 4, 0, 0, x.wrong)
		wantPrice(t, rates(t, x.source), a, nil, 0, x.wrong)
	}
}

// TestRounding checks P11.1 for K3: prices are rounded, and then must not be less than 0.
func TestRounding(t *testing.T) {
	a := api.Ask{Kind: 1, From: 3, Until: 6, Persons: 2}
	for s, want := range map[string]int{
		"0.00": 0, "0.01": 1, "0.01 / 2": 0, "0.02 / 2": 1, "0.03 / 2": 2, "0.05 / 2": 2, "0.07 / 2": 4, "0.01 / 3": 0, "0.02 / 3": 1, "1.00 / 3": 33, "2.00 / 3": 67, "0.00 - 0.01 / 2": 0, "0.00 - 0.01 / 3": 0, "0.00 - 0.01 / 1000000": 0,
		"10000000.00": 1000000000, "9999999.99": 999999999, "9999999.99 / 2": 500000000, "9999999.97 / 2": 499999998,
		"0.00 - 0.02 / 3": -1, "0.00 - 0.01": -1, "0.00 - 0.03 / 2": -1, "0.00 - 500001 / 1000000 * 0.01": -1, "0.00 - 10000000.00": -1, "0.00 - 0.05 / 2": -1,
		"1.00 * persons": 200, "1.00 * nights": 300, "1.00 * night": 100, "1.00 * weekday": 0,
	} {
		l := rates(t, always+s+";")
		if want < 0 {
			wantNight(t, l, a, 4, 0, 0, api.ErrPrice)
		} else {
			wantNight(t, l, a, 4, want, 1, api.OK)
		}
	}
}

// TestKeep checks P11.1 for K4: what is kept is rounded night by night, by the rate of each.
func TestKeep(t *testing.T) {
	kept := func(part, price string, nights int) string {
		return fmt.Sprintf("rate 1 level 0 kind 1 nights 0 to %d stay 1 to 60 arrive 127 keep %s when 1 = 1 price %s;", nights, part, price)
	}
	a := api.Ask{Kind: 1, From: 0, Until: 4, Persons: 1}
	for _, x := range []struct {
		source string
		nights []int
		keep   int
	}{
		{kept("50%", "0.01", 366), []int{1, 1, 1, 1}, 0}, {kept("50%", "0.03", 366), []int{3, 3, 3, 3}, 8}, {kept("50%", "0.05", 366), []int{5, 5, 5, 5}, 8}, {kept("51%", "0.01", 366), []int{1, 1, 1, 1}, 4}, {kept("49%", "0.01", 366), []int{1, 1, 1, 1}, 0},
		{kept("100%", "1.00 + 0.01 * night", 366), []int{100, 101, 102, 103}, 406}, {kept("0%", "1.00", 366), []int{100, 100, 100, 100}, 0}, {kept("25%", "0.01 * night + 0.01", 366), []int{1, 2, 3, 4}, 2},
		{kept("100%", "2500000.00", 366), []int{250000000, 250000000, 250000000, 250000000}, 1000000000},
		{kept("10%", "1.00", 2) + "rate 2 level 0 kind 1 nights 1 to 366 stay 1 to 60 arrive 127 keep 70% when 1 = 1 price 2.00;", []int{100, 100, 200, 200}, 300},
		{kept("10%", "1.00", 2) + "rate 2 level 5 kind 1 nights 1 to 366 stay 1 to 60 arrive 127 keep 70% when 1 = 1 price 2.00;", []int{100, 200, 200, 200}, 430},
	} {
		wantPrice(t, rates(t, x.source), a, x.nights, x.keep, api.OK)
	}
	// The part is that of the rounded price, and exact.
	l := rates(t, kept("50%", "1.01 / 2", 366))
	wantPrice(t, l, a, []int{50, 50, 50, 50}, 100, api.OK)
	l = rates(t, kept("0%", "10000000.00", 366))
	l[0].Keep = api.Rat{N: 1, D: 1000000}
	wantPrice(t, l, api.Ask{Kind: 1, From: 5, Until: 6, Persons: 1}, []int{1000000000}, 1000, api.OK)
	l[0].Keep = api.Rat{N: 999999, D: 1000000}
	wantPrice(t, l, api.Ask{Kind: 1, From: 5, Until: 6, Persons: 1}, []int{1000000000}, 999999000, api.OK)
}

// TestSum checks P11.1 for K4: the sum of all prices, and that an error of any night counts before it.
func TestSum(t *testing.T) {
	a := api.Ask{Kind: 1, From: 0, Until: 4, Persons: 1}
	for s, wrong := range map[string]api.Errno{
		"2500000.00": api.OK, "2500000.00 + 0.01 / 2": api.OK, "2500000.01": api.ErrRange, "10000000.00": api.ErrRange, "2500000.00 + 0.01 * max(0, night - 2)": api.ErrRange,
		"if night = 3 then 10000000.00 - 2.00 else if night < 2 then 1.00 else 0.00": api.OK,
		"if night = 3 then 10000000.00 - 1.99 else if night < 2 then 1.00 else 0.00": api.ErrRange,
		"10000000.00 / (3 - night)":                           api.ErrPrice,
		"10000000.00 + 0.01 / (4 - night)":                    api.ErrRange,
		"if night = 3 then 0.00 - 1.00 else 10000000.00":      api.ErrPrice,
		"if night = 0 then 1.00 / 0 else 10000000.00 + 0.01":  api.ErrPrice,
		"if night = 1 then 1.00 / 0 else 10000000.00":         api.ErrPrice,
		"if night = 0 then 10000000.00 + 0.01 else 1.00 / 0":  api.ErrRange,
		"if night < 2 then 9000000.00 else 0.00 - 1.00 / 100": api.ErrPrice,
	} {
		l := rates(t, always+s+";")
		nights, _, e := rate.Price(l, a)
		if e != wrong || (e != api.OK) != (nights == nil) {
			t.Errorf("%q costs %v, %v; want %v", s, nights, e, wrong)
		}
	}
	// The last night has no rate.
	l := rates(t, strings.Replace(always, "366", "3", 1)+"10000000.00;")
	wantPrice(t, l, a, nil, 0, api.ErrNone)
	a.Until = 3
	wantPrice(t, l, a, nil, 0, api.ErrRange)
	a.Until = 1
	wantPrice(t, l, a, []int{1000000000}, 0, api.OK)
}
