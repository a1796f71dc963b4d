package rate_test

import (
	"math"
	"math/rand"
	"reflect"
	"slices"
	"testing"

	"innkeeper/api"
	"innkeeper/parser"
	"innkeeper/rate"
	"innkeeper/ratio"
	"innkeeper/types"
)

// nodesOf returns all nodes of an expression, which can be changed there.
func nodesOf(e *api.Expr) []*api.Expr {
	l := []*api.Expr{e}
	for i := range e.Kids {
		l = append(l, nodesOf(&e.Kids[i])...)
	}
	return l
}

// someNight returns one of the nights of an ask.
func someNight(r *rand.Rand, a api.Ask) int {
	return a.From + r.Intn(a.Until-a.From)
}

// leafOf returns an expression without Kids that has the type and the value of another one, if there is one.
func leafOf(e api.Expr, value api.Rat) (api.Expr, bool) {
	is, _ := types.Infer(e)
	ops := map[int]int{api.TypeNumber: api.OpNumber, api.TypeMoney: api.OpMoney}
	leaf := api.Expr{Op: ops[is], N: value.N}
	return leaf, value.D == 1 && parser.Valid(leaf)
}

// TestParts checks P11.2: a part can be replaced by another one of the same value, and a part that has no value leaves the rest with none.
func TestParts(t *testing.T) {
	r := rand.New(rand.NewSource(114))
	replaced, wrong := 0, 0
	for i := range 20000 {
		e, vars := someExpr(r, "NMT"[i%3], 1+r.Intn(4)), someVars(r)
		want, f := rate.Eval(e, vars)
		all := nodesOf(&e)
		at := all[r.Intn(len(all))]
		value, g := rate.Eval(*at, vars)
		if leaf, is := leafOf(*at, value); g == api.OK && is && len(at.Kids) > 0 {
			*at = leaf
			wantValue(t, e, vars, want, f)
			replaced++
		}
		if e.Op == api.OpIf {
			continue
		}
		for _, k := range e.Kids {
			if _, g := rate.Eval(k, vars); g != api.OK {
				wantValue(t, e, vars, api.Rat{}, g)
				wrong++
				break
			}
		}
	}
	if replaced < 1000 || wrong < 1000 {
		t.Errorf("%d parts were replaced, and %d without a value; want many", replaced, wrong)
	}
}

// TestOperators checks P11.2: what each operator makes of the values of two parts, which are any ratios.
func TestOperators(t *testing.T) {
	r := rand.New(rand.NewSource(115))
	leaf := func(n int) api.Expr { return api.Expr{Op: api.OpNumber, N: n} }
	op := func(op int, kids ...api.Expr) api.Expr { return api.Expr{Op: op, Kids: kids} }
	vars := [4]int{1, 1, 0, 0}
	truth := map[bool]api.Rat{true: {N: 1, D: 1}, false: {N: 0, D: 1}}
	for range 5000 {
		var parts [2]api.Expr
		var values [2]api.Rat
		for i := range parts {
			n, d := r.Intn([]int{10, 1000, 1000000000}[r.Intn(3)]), 1+r.Intn([]int{10, 1000, 1000000}[r.Intn(3)])
			values[i], _ = ratio.Make(n, d)
			parts[i] = op(api.OpDiv, leaf(n), leaf(d))
			if r.Intn(2) == 0 {
				values[i], _ = ratio.Make(-n, d)
				parts[i] = op(api.OpSub, leaf(0), parts[i])
			}
		}
		a, b := values[0], values[1]
		sum, e := ratio.Add(a, b)
		wantValue(t, op(api.OpAdd, parts[:]...), vars, sum, e)
		difference, e := ratio.Sub(a, b)
		wantValue(t, op(api.OpSub, parts[:]...), vars, difference, e)
		product, e := ratio.Mul(a, b)
		wantValue(t, op(api.OpMul, parts[:]...), vars, product, e)
		quotient, e := api.Rat{}, api.ErrPrice
		if b.N != 0 {
			quotient, e = ratio.Make(a.N*b.D, a.D*b.N)
		}
		wantValue(t, op(api.OpDiv, parts[:]...), vars, quotient, e)
		order, _ := ratio.Compare(a, b)
		lesser, greater := a, b
		if order > 0 {
			lesser, greater = b, a
		}
		wantValue(t, op(api.OpMin, parts[:]...), vars, lesser, api.OK)
		wantValue(t, op(api.OpMax, parts[:]...), vars, greater, api.OK)
		less := op(api.OpLess, parts[:]...)
		wantValue(t, less, vars, truth[order < 0], api.OK)
		equal := op(api.OpEqual, parts[:]...)
		wantValue(t, equal, vars, truth[order == 0], api.OK)
		wantValue(t, op(api.OpEqual, parts[0], parts[0]), vars, truth[true], api.OK)
		wantValue(t, op(api.OpNot, less), vars, truth[order >= 0], api.OK)
		wantValue(t, op(api.OpOr, less, equal), vars, truth[order <= 0], api.OK)
		wantValue(t, op(api.OpAnd, op(api.OpNot, less), op(api.OpNot, equal)), vars, truth[order > 0], api.OK)
		wantValue(t, op(api.OpIf, less, parts[0], parts[1]), vars, lesser, api.OK)
	}
}

// TestApplying checks P11.3: whether a rate applies does not depend on its ID, Level, Price and Keep.
func TestApplying(t *testing.T) {
	r := rand.New(rand.NewSource(116))
	seen := map[bool]int{}
	for range 5000 {
		a := someAsk(r)
		x := someRate(r, a)
		night := someNight(r, a)
		want, wrong := rate.Applies(x, a, night)
		seen[want]++
		for range 3 {
			other := someRate(r, a)
			x.ID, x.Level, x.Price, x.Keep = other.ID, r.Intn(101), other.Price, other.Keep
			wantApplies(t, x, a, night, want, wrong)
		}
	}
	if seen[true] < 1000 || seen[false] < 1000 {
		t.Errorf("results: %v; want many of both", seen)
	}
}

// TestWinnerLaws checks P11.4: the rate that decides is the first one that applies, and no other one plays a part.
func TestWinnerLaws(t *testing.T) {
	r := rand.New(rand.NewSource(117))
	many := 0
	for range 5000 {
		a := someAsk(r)
		l := someRates(r, 1+r.Intn(12), a)
		night := someNight(r, a)
		cents, id, e := rate.Night(l, a, night)
		if e != api.OK {
			continue
		}
		at := slices.IndexFunc(l, func(x api.Rate) bool { return x.ID == id })
		if at < 0 {
			t.Fatalf("Night(%s, %v, %d) is decided by %d", show(l), a, night, id)
		}
		wantApplies(t, l[at], a, night, true, api.OK)
		wantNight(t, l[at:at+1], a, night, cents, id, api.OK)
		for i, x := range l {
			if i == at {
				continue
			}
			is, e := rate.Applies(x, a, night)
			if e != api.OK || is && (x.Level > l[at].Level || x.Level == l[at].Level && x.ID < id) {
				t.Errorf("Night(%s, %v, %d) is decided by %d, and %d applies: %v", show(l), a, night, id, x.ID, e)
			}
			if is {
				many++
			}
			wantNight(t, slices.Delete(slices.Clone(l), i, i+1), a, night, cents, id, api.OK)
		}
	}
	if many < 1000 {
		t.Errorf("%d rates that apply decided nothing; want many", many)
	}
}

// TestWithoutWinner checks P11.4: without the rate that decides, the next one of those that apply does.
func TestWithoutWinner(t *testing.T) {
	r := rand.New(rand.NewSource(118))
	a := api.Ask{Kind: 1, From: 7, Until: 9, Persons: 1}
	for range 200 {
		l := someRates(r, 1+r.Intn(30), a)
		for i := range l {
			l[i] = rates(t, always+"1.00;")[0]
			l[i].Level, l[i].ID, l[i].Price.N = r.Intn(4), 1+i*33333+r.Intn(33333), r.Intn(100000)
		}
		r.Shuffle(len(l), func(i, j int) { l[i], l[j] = l[j], l[i] })
		last := [2]int{-100, 0}
		for len(l) > 0 {
			cents, id, e := rate.Night(l, a, 8)
			at := slices.IndexFunc(l, func(x api.Rate) bool { return x.ID == id })
			next := [2]int{-l[at].Level, id}
			if e != api.OK || l[at].Price.N != cents || slices.Compare(last[:], next[:]) >= 0 {
				t.Fatalf("Night(%s) = %d, %d, %v after %v", show(l), cents, id, e, last)
			}
			last = next
			l = slices.Delete(l, at, at+1)
		}
		wantNight(t, l, a, 8, 0, 0, api.ErrNone)
	}
}

// TestOrder checks P11.5: the order of rates plays no part for prices, nor for whether there is one.
func TestOrder(t *testing.T) {
	r := rand.New(rand.NewSource(119))
	seen := map[bool]int{}
	for range 3000 {
		a := someAsk(r)
		l := someRates(r, 1+r.Intn(12), a)
		night := someNight(r, a)
		cents, id, e := rate.Night(l, a, night)
		nights, keep, f := rate.Price(l, a)
		seen[f == api.OK]++
		for range 3 {
			r.Shuffle(len(l), func(i, j int) { l[i], l[j] = l[j], l[i] })
			if again, by, g := rate.Night(l, a, night); again != cents || by != id || (g == api.OK) != (e == api.OK) || (g == api.ErrNone) != (e == api.ErrNone) {
				t.Errorf("Night(%s, %v, %d) = %d, %d, %v; want %d, %d, %v", show(l), a, night, again, by, g, cents, id, e)
			}
			if again, kept, g := rate.Price(l, a); !slices.Equal(again, nights) || kept != keep || (g == api.OK) != (f == api.OK) {
				t.Errorf("Price(%s, %v) = %v, %d, %v; want %v, %d, %v", show(l), a, again, kept, g, nights, keep, f)
			}
		}
	}
	if seen[true] < 500 || seen[false] < 500 {
		t.Errorf("prices: %v; want many of both", seen)
	}
}

// TestSums checks P11.6: prices of a stay are those of its nights, and what is kept is a part of each.
func TestSums(t *testing.T) {
	r := rand.New(rand.NewSource(120))
	seen := map[api.Errno]int{}
	for range 3000 {
		a := someAsk(r)
		l := someRates(r, 1+r.Intn(8), a)
		nights, keep, e := rate.Price(l, a)
		seen[e]++
		var each []int
		all, kept, first := 0, 0, api.OK
		for night := a.From; night < a.Until && first == api.OK; night++ {
			cents, id, f := rate.Night(l, a, night)
			each, all, first = append(each, cents), all+cents, f
			for _, x := range l {
				if x.ID == id {
					part, _ := ratio.Part(cents, x.Keep, api.RoundEven)
					kept += part
				}
			}
		}
		switch {
		case first != api.OK:
			wantPrice(t, l, a, nil, 0, first)
			continue
		case all > 1000000000:
			wantPrice(t, l, a, nil, 0, api.ErrRange)
			continue
		}
		wantPrice(t, l, a, each, kept, api.OK)
		if keep < 0 || keep > all {
			t.Errorf("of %v, %d are kept", nights, keep)
		}
		for n := range 2 {
			for i := range l {
				l[i].Keep = api.Rat{N: n, D: 1}
			}
			wantPrice(t, l, a, each, n*all, api.OK)
		}
	}
	if seen[api.OK] < 500 || seen[api.ErrNone] < 100 {
		t.Errorf("errors: %v; want many of each", seen)
	}
}

// TestAllArguments checks P1: no call panics, and all end, whatever the arguments are.
func TestAllArguments(t *testing.T) {
	one := api.Expr{Op: api.OpNumber, N: 1}
	many := one
	for range 100 {
		many = api.Expr{Op: api.OpAdd, Kids: []api.Expr{many, many}}
	}
	around := api.Expr{Op: api.OpIf, Kids: make([]api.Expr, 3)}
	for i := range around.Kids {
		around.Kids[i] = around
	}
	deep := one
	for range 1000000 {
		deep = api.Expr{Op: api.OpNot, Kids: []api.Expr{deep}}
	}
	fine := rates(t, always+"1.00;")[0]
	a := api.Ask{Kind: 1, From: 0, Until: 2, Persons: 1}
	// None of these can be shown in an error.
	for name, e := range map[string]api.Expr{"many nodes": many, "parts of themselves": around, "deep": deep, "broad": {Op: api.OpAdd, Kids: make([]api.Expr, 1000000)}} {
		if got, f := rate.Eval(e, [4]int{1, 1, 0, 0}); got != (api.Rat{}) || f != api.ErrArg {
			t.Errorf("%s: Eval is %v, %v", name, got, f)
		}
		for i := range 2 {
			x := fine
			*[]*api.Expr{&x.When, &x.Price}[i] = e
			l := []api.Rate{x}
			if got, f := rate.Applies(x, a, 0); got || f != api.ErrArg {
				t.Errorf("%s: Applies is %v, %v", name, got, f)
			}
			if cents, id, f := rate.Night(l, a, 0); cents != 0 || id != 0 || f != api.ErrArg {
				t.Errorf("%s: Night is %d, %d, %v", name, cents, id, f)
			}
			if nights, keep, f := rate.Price(l, a); nights != nil || keep != 0 || f != api.ErrArg {
				t.Errorf("%s: Price is %v, %d, %v", name, nights, keep, f)
			}
		}
	}
	wantPrice(t, make([]api.Rate, 1000000), a, nil, 0, api.ErrArg)
	numbers := []int{math.MinInt, -1, 0, 1, 2, 8, 60, 365, 366, 1000000000, math.MaxInt}
	r := rand.New(rand.NewSource(121))
	any := func() int { return numbers[r.Intn(len(numbers))] }
	for range 20000 {
		x := fine
		if r.Intn(2) == 0 {
			x.ID, x.Season, x.Least, x.Arrive = any(), api.Span{From: any(), Until: any()}, any(), any()
		}
		usable, _ := types.Rate(x)
		ask, night := api.Ask{Kind: any(), From: any(), Until: any(), Persons: any()}, any()
		formed := usable && ask.Kind > 0 && ask.Kind < 21 && ask.From >= 0 && ask.From < ask.Until && ask.Until < 367 && ask.Until-ask.From < 61 && ask.Persons > 0 && ask.Persons < 9
		inside := formed && night >= ask.From && night < ask.Until
		if _, e := rate.Applies(x, ask, night); (e == api.ErrArg) == inside {
			t.Fatalf("Applies(%v, %v, %d) is %v", x, ask, night, e)
		}
		if _, _, e := rate.Night([]api.Rate{x}, ask, night); (e == api.ErrArg) == inside {
			t.Fatalf("Night(%v, %v, %d) is %v", x, ask, night, e)
		}
		if _, _, e := rate.Price([]api.Rate{x}, ask); (e == api.ErrArg) == formed {
			t.Fatalf("Price(%v, %v) is %v", x, ask, e)
		}
		if _, e := rate.Eval(one, [4]int{any(), any(), any(), any()}); e != api.OK && e != api.ErrArg {
			t.Fatalf("Eval is %v", e)
		}
	}
}

// copyOf returns an expression that shares no memory with the first one.
func copyOf(e api.Expr) api.Expr {
	kids := e.Kids
	e.Kids = nil
	for _, k := range kids {
		e.Kids = append(e.Kids, copyOf(k))
	}
	return e
}

// TestArgumentsStay checks the document's Rules: calls change no argument, and are repeatable, whatever is done with their results.
func TestArgumentsStay(t *testing.T) {
	r := rand.New(rand.NewSource(122))
	for range 500 {
		a := someAsk(r)
		l := someRates(r, 1+r.Intn(5), a)
		before := slices.Clone(l)
		for i := range before {
			before[i].When, before[i].Price = copyOf(l[i].When), copyOf(l[i].Price)
		}
		night := someNight(r, a)
		cents, id, _, e := modelNight(before, a, night)
		nights, keep, f := modelPrice(before, a)
		for range 2 {
			applies, g := modelApplies(before[0], a, night)
			wantApplies(t, l[0], a, night, applies, g)
			value, g := modelEval(before[0].Price, modelVars(a, night))
			wantValue(t, l[0].Price, modelVars(a, night), value, g)
			wantNight(t, l, a, night, cents, id, e)
			wantPrice(t, l, a, nights, keep, f)
			got, _, _ := rate.Price(l, a)
			for i := range got {
				got[i] = -1
			}
		}
		if !reflect.DeepEqual(l, before) {
			t.Fatalf("calls left %s; want %s", show(l), show(before))
		}
	}
}
