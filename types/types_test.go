package types_test

import (
	"fmt"
	"math"
	"slices"
	"strings"
	"testing"

	"innkeeper/api"
	"innkeeper/parser"
	"innkeeper/types"
)

// The expressions without Kids, and those with some.
func number(n int) api.Expr                { return api.Expr{Op: api.OpNumber, N: n} }
func amount(n int) api.Expr                { return api.Expr{Op: api.OpMoney, N: n} }
func variable(n int) api.Expr              { return api.Expr{Op: api.OpVar, N: n} }
func op(op int, kids ...api.Expr) api.Expr { return api.Expr{Op: op, Kids: kids} }

// read returns the expression of a source.
func read(t *testing.T, s string) api.Expr {
	t.Helper()
	e, f := parser.Expr(s)
	if f != api.OK {
		t.Fatalf("%q is %v", s, f)
	}
	return e
}

// show returns the beginning of what a value looks like.
func show(x any) string { return fmt.Sprintf("%.400s", fmt.Sprint(x)) }

// wantType checks the type of a well-formed expression; 0 stands for none.
func wantType(t *testing.T, e api.Expr, want int) {
	t.Helper()
	wrong := api.OK
	if want == 0 {
		wrong = api.ErrType
	}
	if got, f := types.Infer(e); got != want || f != wrong {
		t.Errorf("Infer(%s) = %d, %v; want %d, %v", show(e), got, f, want, wrong)
	}
}

// wantNoType checks that an expression is not well-formed.
func wantNoType(t *testing.T, e api.Expr) {
	t.Helper()
	if got, f := types.Infer(e); got != 0 || f != api.ErrArg {
		t.Errorf("Infer(%s) = %d, %v; want %v", show(e), got, f, api.ErrArg)
	}
}

// wantRate checks whether a rate can be used.
func wantRate(t *testing.T, r api.Rate, want api.Errno) {
	t.Helper()
	if got, e := types.Rate(r); got != (want == api.OK) || e != want {
		t.Errorf("Rate(%s) = %v, %v; want %v", show(r), got, e, want)
	}
}

// TestExamples checks P10.1 for J1: the chapter's examples, and others as long as those of rates.
func TestExamples(t *testing.T) {
	for s, want := range map[string]int{
		"100.00 + 20.00 * persons":    api.TypeMoney,
		"nights < 5":                  api.TypeTruth,
		"if nights < 5 then 1 else 2": api.TypeNumber,
		"100.00 + persons":            0,
		"1.00 * 1.00":                 0,
		"not 1":                       0,
		"1 / 1.00":                    0,
		"0":                           api.TypeNumber,
		"0.00":                        api.TypeMoney,
		"nights":                      api.TypeNumber,
		"persons":                     api.TypeNumber,
		"night":                       api.TypeNumber,
		"weekday":                     api.TypeNumber,
		"weekday = 5 or weekday = 6 and not nights < 3":          api.TypeTruth,
		"if weekday = 5 then 100.00 else 80.00 / nights":         api.TypeMoney,
		"if weekday = 5 then 100.00 else 80":                     0,
		"if weekday then 100.00 else 80.00":                      0,
		"if 1 < 2 then 3 < 4 else 5 = 6":                         api.TypeTruth,
		"(if 1 < 2 then 3 < 4 else 5 = 6) and 1 = 1":             api.TypeTruth,
		"if if 1 < 2 then 3 < 4 else 5 = 6 then 1.00 else 2.00":  api.TypeMoney,
		"(1 < 2) = (2 < 3)":                                      0,
		"1.00 < 2.00":                                            api.TypeTruth,
		"1.00 = nights":                                          0,
		"min(1.00, max(2.00, 3.00))":                             api.TypeMoney,
		"min(1, max(2, 3.00))":                                   0,
		"2 * (100.00 - 1.00) * nights / 3 * persons":             api.TypeMoney,
		"100.00 / 50.00":                                         0,
		"100.00 / (50.00 / 2)":                                   0,
		"1 and 2 = 2":                                            0,
		"2 = 2 or 1.00":                                          0,
		"not not 1 = 1":                                          api.TypeTruth,
		"if 1 = 1 then not 1 else 2 = 2":                         0,
		"if 1 = 1 then 1 / 1.00 else 1 / 1.00":                   0,
		"1.00 * (2 < 3)":                                         0,
		"(2 < 3) * 1":                                            0,
		"(1 < 2) + (1 < 2)":                                      0,
		"min(1 < 2, 1 < 2)":                                      0,
		"if 1 < 2 then if 2 < 3 then nights else 2 else persons": api.TypeNumber,
	} {
		wantType(t, read(t, s), want)
	}
}

// kinds returns expressions of each type, and with x those that have none.
func kinds(t *testing.T) map[byte][]api.Expr {
	all := map[byte][]api.Expr{}
	for is, l := range map[byte][]string{
		'n': {"1", "weekday", "nights * 2 - 3"},
		'm': {"1.00", "2 * 3.00", "if 1 < 2 then 1.00 else 2.00"},
		't': {"1 < 2", "1.00 = 2.00", "not 1 = 2"},
		'x': {"not 1", "1 + 1.00", "1.00 * 1.00", "if 1 < 2 then 1 else 1.00", "(1 < 2) = (1 < 2)"},
	} {
		for _, s := range l {
			all[is] = append(all[is], read(t, s))
		}
	}
	return all
}

// words returns all words of so many letters out of n, m, t and x.
func words(many int) []string {
	if many == 0 {
		return []string{""}
	}
	var l []string
	for _, w := range words(many - 1) {
		for _, c := range "nmtx" {
			l = append(l, w+string(c))
		}
	}
	return l
}

// TestTable checks P10.1 for J1: each Op with Kids of all types, and without one, against the chapter's table.
func TestTable(t *testing.T) {
	all := kinds(t)
	for is, l := range all {
		for _, e := range l {
			wantType(t, e, numberOf(is))
		}
	}
	checked := 0
	for o := api.OpAdd; o <= api.OpNot; o++ {
		many := 2
		if o == api.OpIf {
			many = 3
		} else if o == api.OpNot {
			many = 1
		}
		for _, w := range words(many) {
			want := 0
			for _, x := range rows {
				if x.op == o && x.kids == w {
					want = numberOf(x.is)
				}
			}
			for i := range 5 {
				var kids []api.Expr
				for j := range len(w) {
					l := all[w[j]]
					kids = append(kids, l[(i+j)%len(l)])
				}
				wantType(t, op(o, kids...), want)
				checked++
			}
		}
	}
	if checked != 5*(10*16+64+4) {
		t.Errorf("%d expressions", checked)
	}
}

// TestNotFormed checks P10.1 for J1: ErrArg for what is not well-formed, whether it would have a type or not.
func TestNotFormed(t *testing.T) {
	one, cent := number(1), amount(1)
	truth := op(api.OpLess, one, one)
	for _, bad := range []api.Expr{
		{}, {Op: -1}, {Op: 16}, {Op: math.MinInt}, {Op: math.MaxInt}, {Op: 16, Kids: []api.Expr{one, one}},
		number(-1), number(1000000000), op(api.OpNumber, one), amount(-1), amount(1000000001), op(api.OpMoney, cent),
		variable(-1), variable(0), variable(5), {Op: api.OpVar, N: 1, Kids: []api.Expr{one}},
		op(api.OpAdd), op(api.OpAdd, one), op(api.OpAdd, one, one, one), op(api.OpMul, cent), op(api.OpDiv, cent, one, one), op(api.OpMin), op(api.OpMax, one),
		op(api.OpNot), op(api.OpNot, truth, truth), op(api.OpAnd, truth), op(api.OpOr, truth, truth, truth), op(api.OpLess, one), op(api.OpEqual, one, one, one),
		op(api.OpIf, truth, one), op(api.OpIf, truth, one, one, one), {Op: api.OpAdd, N: 1, Kids: []api.Expr{one, one}}, {Op: api.OpNot, N: -1, Kids: []api.Expr{truth}},
	} {
		wantNoType(t, bad)
		wantNoType(t, op(api.OpNot, bad))
		wantNoType(t, op(api.OpAdd, one, bad))
		wantNoType(t, op(api.OpAdd, op(api.OpNot, one), bad))
		wantNoType(t, op(api.OpIf, bad, one, cent))
	}
}

// TestSizes checks P10.1 for J1: as deep, and as many nodes, as can be, and one more.
func TestSizes(t *testing.T) {
	truth := op(api.OpLess, number(1), number(1))
	for _, deep := range []int{3, 29, 30, 31, 100} {
		sum, nots, wrong := amount(1), truth, number(1)
		for range deep - 1 {
			sum, wrong = op(api.OpAdd, sum, amount(1)), op(api.OpNot, wrong)
		}
		for range deep - 2 {
			nots = op(api.OpNot, nots)
		}
		if deep > 30 {
			wantNoType(t, sum)
			wantNoType(t, nots)
			wantNoType(t, wrong)
		} else {
			wantType(t, sum, api.TypeMoney)
			wantType(t, nots, api.TypeTruth)
			wantType(t, wrong, 0)
		}
	}
	for _, many := range []int{1, 3, 197, 199, 201, 203, 401} {
		if e := wide(many, amount(1)); many > 200 {
			wantNoType(t, e)
		} else {
			wantType(t, e, api.TypeMoney)
		}
	}
	// With a number of nodes that is even.
	e := op(api.OpNot, op(api.OpLess, wide(197, number(1)), number(1)))
	wantType(t, e, api.TypeTruth)
	wantType(t, op(api.OpNot, wide(199, number(1))), 0)
	wantNoType(t, op(api.OpNot, e))
	wantNoType(t, op(api.OpNot, wide(201, number(1))))
}

// wide returns a sum of the same parts, with so many nodes (an odd number), none of them deeper than it has to be.
func wide(nodes int, part api.Expr) api.Expr {
	if nodes == 1 {
		return part
	}
	first := (nodes - 1) / 2
	if first%2 == 0 {
		first--
	}
	return op(api.OpMin, wide(first, part), wide(nodes-1-first, part))
}

// example is the rate of chapter 8's example.
func example() api.Rate {
	return api.Rate{
		ID: 7, Level: 1, Kind: 2, Season: api.Span{From: 10, Until: 40}, Least: 2, Most: 9, Arrive: 127, Keep: api.Rat{N: 1, D: 2},
		When:  op(api.OpLess, variable(1), number(5)),
		Price: op(api.OpAdd, amount(10000), op(api.OpMul, amount(2000), variable(2))),
	}
}

// changed returns the example with a change.
func changed(change func(r *api.Rate)) api.Rate {
	r := example()
	change(&r)
	return r
}

// field is a number of a rate, with its range in the example.
type field struct {
	name        string
	at          func(r *api.Rate) *int
	least, most int
}

// fields are the numbers of a rate, but for those of Keep.
var fields = []field{
	{"ID", func(r *api.Rate) *int { return &r.ID }, 1, 1000000},
	{"Level", func(r *api.Rate) *int { return &r.Level }, 0, 100},
	{"Kind", func(r *api.Rate) *int { return &r.Kind }, 1, 20},
	{"From", func(r *api.Rate) *int { return &r.Season.From }, 0, 39},
	{"Until", func(r *api.Rate) *int { return &r.Season.Until }, 11, 366},
	{"Least", func(r *api.Rate) *int { return &r.Least }, 1, 9},
	{"Most", func(r *api.Rate) *int { return &r.Most }, 2, 60},
	{"Arrive", func(r *api.Rate) *int { return &r.Arrive }, 1, 127},
}

// TestRanges checks P10.1 for J2, and P10.5: each number of a rate at the ends of its range, and beyond them.
func TestRanges(t *testing.T) {
	wantRate(t, example(), api.OK)
	for _, f := range fields {
		for _, n := range []int{f.least, f.least + 1, (f.least + f.most) / 2, f.most - 1, f.most} {
			wantRate(t, changed(func(r *api.Rate) { *f.at(r) = n }), api.OK)
		}
		for _, n := range []int{f.least - 1, f.least - 2, -1, -5, math.MinInt, math.MinInt + 1, f.most + 1, f.most + 2, math.MaxInt, math.MaxInt - 1, 1<<32 + f.least, -1<<32 + f.least, 1<<40 + f.most} {
			bad := changed(func(r *api.Rate) { *f.at(r) = n })
			wantRate(t, bad, api.ErrArg)
			if types.Valid([]api.Rate{bad}) {
				t.Errorf("%s of %d is valid", f.name, n)
			}
		}
	}
}

// TestPairs checks P10.1 for J2: seasons, and lengths of stays.
func TestPairs(t *testing.T) {
	numbers := []int{math.MinInt, math.MinInt + 1, -367, -1, 0, 1, 2, 59, 60, 61, 62, 364, 365, 366, 367, 368, math.MaxInt - 1, math.MaxInt}
	for _, a := range numbers {
		for _, b := range numbers {
			want := api.ErrArg
			if 0 <= a && a < b && b <= 366 {
				want = api.OK
			}
			wantRate(t, changed(func(r *api.Rate) { r.Season = api.Span{From: a, Until: b} }), want)
			want = api.ErrArg
			if 1 <= a && a <= b && b <= 60 {
				want = api.OK
			}
			wantRate(t, changed(func(r *api.Rate) { r.Least, r.Most = a, b }), want)
		}
	}
}

// TestKeep checks P10.1 for J2: which parts can be kept.
func TestKeep(t *testing.T) {
	for _, k := range []api.Rat{{N: 0, D: 1}, {N: 1, D: 1}, {N: 1, D: 2}, {N: 1, D: 3}, {N: 2, D: 3}, {N: 1, D: 200}, {N: 1, D: 1000000}, {N: 999999, D: 1000000}, {N: 999998, D: 999999}} {
		wantRate(t, changed(func(r *api.Rate) { r.Keep = k }), api.OK)
	}
	for _, k := range []api.Rat{
		{}, {N: 1}, {N: 0, D: 2}, {N: 2, D: 2}, {N: 2, D: 4}, {N: 50, D: 100}, {N: 3, D: 2}, {N: 2, D: 1}, {N: 1000000, D: 999999}, {N: 1000000000, D: 1}, {N: -1, D: 2}, {N: -1, D: 1}, {N: -1, D: 1000000},
		{N: 1, D: -2}, {N: -1, D: -2}, {N: 0, D: -1}, {N: 1, D: 1000001}, {N: 0, D: math.MaxInt}, {N: 1, D: math.MaxInt}, {N: math.MaxInt, D: math.MaxInt}, {N: math.MinInt, D: 1}, {N: math.MinInt, D: math.MinInt},
	} {
		wantRate(t, changed(func(r *api.Rate) { r.Keep = k }), api.ErrArg)
	}
}

// TestExpressionsOfRates checks P10.1 for J2: types of When and Price, and that what is not well-formed comes first.
func TestExpressionsOfRates(t *testing.T) {
	all := kinds(t)
	for when := range all {
		for price := range all {
			want := api.ErrType
			if when == 't' && price == 'm' {
				want = api.OK
			}
			for i := range 5 {
				r := changed(func(r *api.Rate) {
					r.When, r.Price = all[when][i%len(all[when])], all[price][(i+1)%len(all[price])]
				})
				wantRate(t, r, want)
				if types.Valid([]api.Rate{r}) != (want == api.OK) {
					t.Errorf("Valid of %s is %v", show(r), want != api.OK)
				}
				for _, bad := range []api.Expr{{}, number(-1), op(api.OpNot), op(api.OpNot, number(-1)), op(api.OpAdd, number(1), op(api.OpLess, number(1)))} {
					wantRate(t, changed(func(r *api.Rate) { r.When, r.Price = bad, all[price][i%len(all[price])] }), api.ErrArg)
					wantRate(t, changed(func(r *api.Rate) { r.When, r.Price = all[when][i%len(all[when])], bad }), api.ErrArg)
				}
				for _, f := range fields {
					r := r
					*f.at(&r) = f.most + 1
					wantRate(t, r, api.ErrArg)
				}
				r.Keep = api.Rat{N: 3, D: 2}
				wantRate(t, r, api.ErrArg)
			}
		}
	}
	wantRate(t, api.Rate{}, api.ErrArg)
}

// TestParsed checks P10.1 for J2 and J3 with rates that are read from sources.
func TestParsed(t *testing.T) {
	const s = "rate 7 level 1 kind 2 nights 10 to 40 stay 2 to 9 arrive 127 keep 50% when nights < 5 price 100.00 + 20.00 * persons;"
	for x, want := range map[string]api.Errno{
		s:                                    api.OK,
		strings.Replace(s, "7", "0", 1):      api.ErrArg,
		strings.Replace(s, "127", "128", 1):  api.ErrArg,
		strings.Replace(s, "50%", "100%", 1): api.OK,
		strings.Replace(s, "50%", "101%", 1): api.ErrArg,
		strings.Replace(s, "10 to 40", "40 to 40", 1):                           api.ErrArg,
		strings.Replace(s, "2 to 9", "9 to 9", 1):                               api.OK,
		strings.Replace(s, "nights < 5", "nights", 1):                           api.ErrType,
		strings.Replace(s, "20.00 * persons", "20 * persons", 1):                api.ErrType,
		strings.Replace(s, "when nights < 5 price 100.00", "when 1 price 1", 1): api.ErrType,
	} {
		l, e, _ := parser.Rates(x)
		if e != api.OK || len(l) != 1 {
			t.Fatalf("%q is %v", x, e)
		}
		wantRate(t, l[0], want)
		if got := types.Valid(l); got != (want == api.OK) {
			t.Errorf("Valid of %q is %v", x, got)
		}
	}
}

// numbered returns so many rates with the IDs from 1 on.
func numbered(many int) []api.Rate {
	var l []api.Rate
	for i := range many {
		l = append(l, changed(func(r *api.Rate) { r.ID = i + 1 }))
	}
	return l
}

// TestTogether checks P10.1 for J3: how many rates there can be, the same ID twice, and one that cannot be used.
func TestTogether(t *testing.T) {
	if !types.Valid(nil) || !types.Valid([]api.Rate{}) {
		t.Error("no rates are not valid")
	}
	for _, many := range []int{1, 2, 50, 99, 100, 101, 102, 1000} {
		if got := types.Valid(numbered(many)); got != (many <= 100) {
			t.Errorf("Valid of %d rates is %v", many, got)
		}
	}
	for _, many := range []int{2, 3, 100} {
		for _, i := range []int{0, 1, many - 1} {
			l := numbered(many)
			l[i].ID = 1000000
			if !types.Valid(l) {
				t.Errorf("Valid of %d rates, with another ID at %d, is false", many, i)
			}
			other := (i + many/2) % many
			l[i].ID = l[other].ID
			l[i].Level, l[i].Kind, l[i].Season = 5, 6, api.Span{From: 50, Until: 60}
			if types.Valid(l) {
				t.Errorf("Valid of %d rates, with the ID of %d at %d, is true", many, other, i)
			}
			for _, change := range []func(r *api.Rate){
				func(r *api.Rate) { r.ID = 0 },
				func(r *api.Rate) { r.Level = 101 },
				func(r *api.Rate) { r.When = number(1) },
				func(r *api.Rate) { r.Price = api.Expr{} },
			} {
				l := numbered(many)
				change(&l[i])
				if types.Valid(l) {
					t.Errorf("Valid of %d rates, with a bad one at %d, is true", many, i)
				}
			}
		}
	}
	// IDs are all that has to be different.
	if l := slices.Repeat([]api.Rate{example()}, 2); types.Valid(l) {
		t.Error("the same rate twice is valid")
	}
	if l := numbered(2); !types.Valid(l) || l[0].Level != l[1].Level {
		t.Error("rates that have all but their ID in common are not valid")
	}
}
