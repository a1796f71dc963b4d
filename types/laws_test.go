package types_test

import (
	"math"
	"math/rand"
	"slices"
	"testing"

	"innkeeper/api"
	"innkeeper/parser"
	"innkeeper/types"
)

// smalls returns all expressions of up to three levels, where few different ones are taken of each level.
func smalls() []api.Expr {
	leaves := []api.Expr{number(1), variable(4), amount(1)}
	second := slices.Concat(leaves, level(leaves))
	few := slices.Clone(leaves[1:])
	for i := range 12 {
		few = append(few, second[3+i*(len(second)-3)/12])
	}
	return slices.Concat(second, level(few))
}

// level returns all expressions whose parts are some expressions.
func level(parts []api.Expr) []api.Expr {
	var l []api.Expr
	for _, a := range parts {
		l = append(l, op(api.OpNot, a))
		for _, b := range parts {
			for o := api.OpAdd; o <= api.OpOr; o++ {
				if o != api.OpIf {
					l = append(l, op(o, a, b))
				}
			}
			for _, c := range parts {
				l = append(l, op(api.OpIf, a, b, c))
			}
		}
	}
	return l
}

// TestModel checks P10.1 for J1: all small expressions, and random ones, against the chapter's table.
func TestModel(t *testing.T) {
	seen := map[int]int{}
	l := smalls()
	r := rand.New(rand.NewSource(101))
	for range 5000 {
		l = append(l, someExpr(r, 1+r.Intn(12), 30), someExpr(r, 1+r.Intn(200), 30))
	}
	for _, e := range l {
		want := expect(e)
		wantType(t, e, want)
		seen[want]++
	}
	for is := range 4 {
		if seen[is] < 200 {
			t.Errorf("expressions by their types: %v; want many of each", seen)
		}
	}
}

// TestTyped checks P10.1 for J1: large and deep expressions that are made to have a type.
func TestTyped(t *testing.T) {
	r := rand.New(rand.NewSource(102))
	sizes := map[string]int{}
	for range 5000 {
		is := someType(r)
		e := typed(r, is, 3+r.Intn(198), 30)
		wantType(t, e, numberOf(is))
		if len(nodesOf(&e)) > 150 {
			sizes["large"]++
		}
		if depthOf(e) == 30 {
			sizes["deep"]++
		}
	}
	if sizes["large"] < 100 || sizes["deep"] < 20 {
		t.Errorf("expressions are too small: %v", sizes)
	}
}

// TestParts checks P10.2: all parts of what has a type have one; so nothing has one with a part that has none.
func TestParts(t *testing.T) {
	r := rand.New(rand.NewSource(103))
	wrong := kinds(t)['x']
	for range 3000 {
		e := typed(r, someType(r), 3+r.Intn(100), 25)
		all := nodesOf(&e)
		for _, x := range all {
			if got, f := types.Infer(*x); got == 0 || f != api.OK {
				t.Fatalf("%s has a part of the type %d, %v", show(e), got, f)
			}
		}
		at := all[r.Intn(len(all))]
		*at = wrong[r.Intn(len(wrong))]
		if parser.Valid(e) {
			wantType(t, e, 0)
		}
	}
	for _, e := range smalls() {
		for _, x := range nodesOf(&e) {
			if got, _ := types.Infer(*x); got == 0 {
				wantType(t, e, 0)
			}
		}
	}
}

// TestReplacing checks P10.3: any part can be replaced by another one of its type, unless this makes too large an expression.
func TestReplacing(t *testing.T) {
	r := rand.New(rand.NewSource(104))
	seen := map[bool]int{}
	for range 10000 {
		e := typed(r, someType(r), 3+r.Intn(198), 30)
		if r.Intn(2) == 0 {
			e = someExpr(r, 2+r.Intn(10), 30)
		}
		want := expect(e)
		all := nodesOf(&e)
		at := all[r.Intn(len(all))]
		found := typesOf(*at)
		if found == "" {
			continue
		}
		*at = typed(r, found[0], 3+r.Intn(60), 30)
		valid := parser.Valid(e)
		seen[valid]++
		if valid {
			wantType(t, e, want)
		} else {
			wantNoType(t, e)
		}
	}
	if seen[true] < 3000 || seen[false] < 300 {
		t.Errorf("expressions that are well-formed after replacing: %v; want many, and many that are not", seen)
	}
}

// TestNumbers checks P10.4: there is one type at most, whatever numbers stand in an expression.
func TestNumbers(t *testing.T) {
	r := rand.New(rand.NewSource(105))
	for range 5000 {
		e := typed(r, someType(r), 3+r.Intn(100), 30)
		if r.Intn(2) == 0 {
			e = someExpr(r, 1+r.Intn(20), 30)
		}
		if l := typesOf(e); len(l) > 1 {
			t.Fatalf("%s has the types %s", show(e), l)
		}
		first, f := types.Infer(e)
		for range 3 {
			for _, x := range nodesOf(&e) {
				x.N = someN(r, x.Op)
			}
			if got, g := types.Infer(e); got != first || g != f {
				t.Fatalf("%s has the type %d, %v, and with other numbers %d, %v", show(e), first, f, got, g)
			}
		}
	}
	for _, n := range []int{0, 1, 2, 3, 4, 5, 100, 999999998, 999999999} {
		wantType(t, number(n), api.TypeNumber)
		wantType(t, amount(n), api.TypeMoney)
		wantType(t, amount(n+1), api.TypeMoney)
		// Whatever it is divided by, and compared with.
		wantType(t, op(api.OpDiv, amount(n), number(n)), api.TypeMoney)
		wantType(t, op(api.OpDiv, number(n), number(0)), api.TypeNumber)
		wantType(t, op(api.OpIf, op(api.OpEqual, number(n), number(1)), amount(n), number(n)), 0)
	}
}

// TestRateLaws checks P10.5: a rate cannot be used with When and Price exchanged, or a number beyond its range.
func TestRateLaws(t *testing.T) {
	r := rand.New(rand.NewSource(106))
	for range 3000 {
		x := someRate(r)
		wantRate(t, x, api.OK)
		other := x
		other.When, other.Price = x.Price, x.When
		wantRate(t, other, api.ErrType)
		beyond := map[string][]int{
			"ID": {0, 1000001}, "Level": {-1, 101}, "Kind": {0, 21}, "Arrive": {0, 128},
			"From": {-1, x.Season.Until}, "Until": {x.Season.From, 367}, "Least": {0, x.Most + 1}, "Most": {x.Least - 1, 61},
		}
		for _, f := range fields {
			for _, n := range append(beyond[f.name], math.MinInt, math.MaxInt, beyond[f.name][0]-r.Intn(1000), beyond[f.name][1]+r.Intn(1000000000)) {
				other := x
				*f.at(&other) = n
				wantRate(t, other, api.ErrArg)
			}
		}
		for _, k := range []api.Rat{{N: -1, D: x.Keep.D}, {N: x.Keep.D + 1, D: x.Keep.D}, {N: x.Keep.N, D: 0}, {N: x.Keep.N, D: -x.Keep.D}, {N: x.Keep.N, D: 1000001}, {N: 1000000001, D: x.Keep.D}, {N: 2 * x.Keep.N, D: 2 * x.Keep.D}} {
			other := x
			other.Keep = k
			wantRate(t, other, api.ErrArg)
		}
	}
}

// TestTogetherLaws checks P10.6: some of the rates, in any order, can be used together, and none of them twice.
func TestTogetherLaws(t *testing.T) {
	r := rand.New(rand.NewSource(107))
	want := func(l []api.Rate, fine bool) {
		t.Helper()
		if got := types.Valid(l); got != fine {
			t.Fatalf("Valid of %d rates is %v", len(l), got)
		}
	}
	for range 100 {
		var l []api.Rate
		for i := range r.Intn(101) {
			x := someRate(r)
			x.ID = i*10000 + 1 + r.Intn(10000)
			l = append(l, x)
		}
		want(l, true)
		r.Shuffle(len(l), func(i, j int) { l[i], l[j] = l[j], l[i] })
		want(l, true)
		if len(l) == 0 {
			continue
		}
		some := slices.Clone(l[:r.Intn(len(l))])
		want(some, true)
		i := r.Intn(len(l))
		want(slices.Delete(slices.Clone(l), i, i+1), true)
		want([]api.Rate{l[i]}, true)
		// The same rate, and another one with its ID.
		again := someRate(r)
		again.ID = l[i].ID
		for _, x := range []api.Rate{l[i], again} {
			twice := slices.Insert(slices.Clone(l), r.Intn(len(l)+1), x)
			want(twice, false)
			if j := (i + 1) % len(l); i != j {
				// With as many rates as before.
				instead := slices.Clone(l)
				instead[j] = x
				want(instead, false)
			}
			want([]api.Rate{l[i], x}, false)
		}
	}
}

// TestDamaged checks P10.1 and P1: what is changed anywhere is ErrArg if it is not well-formed then, and has the type of the table otherwise.
func TestDamaged(t *testing.T) {
	r := rand.New(rand.NewSource(108))
	numbers := []int{math.MinInt, -1, 0, 1, 2, 4, 5, 16, 999999999, 1000000000, 1000000001, math.MaxInt}
	seen := map[bool]int{}
	for range 10000 {
		e := typed(r, someType(r), 3+r.Intn(40), 30)
		all := nodesOf(&e)
		at := all[r.Intn(len(all))]
		switch r.Intn(4) {
		case 0:
			at.N = numbers[r.Intn(len(numbers))]
		case 1:
			at.Op = r.Intn(18) - 1
		case 2:
			at.Kids = append(at.Kids, number(1))
		case 3:
			at.Kids = at.Kids[:len(at.Kids)/2]
		}
		x := someRate(r)
		x.When = e
		valid := parser.Valid(e)
		seen[valid]++
		if !valid {
			wantNoType(t, e)
			wantRate(t, x, api.ErrArg)
			continue
		}
		want := expect(e)
		wantType(t, e, want)
		wrong := api.ErrType
		if want == api.TypeTruth {
			wrong = api.OK
		}
		wantRate(t, x, wrong)
	}
	if seen[true] < 1000 || seen[false] < 1000 {
		t.Errorf("results: %v; want many of both", seen)
	}
}

// TestAllArguments checks P1: no call panics, and all end, whatever the argument is.
func TestAllArguments(t *testing.T) {
	// Parts that are the same, so that there are more nodes than could be counted, and parts of themselves.
	many := number(1)
	for range 100 {
		many = op(api.OpAdd, many, many)
	}
	around := api.Expr{Op: api.OpIf, Kids: make([]api.Expr, 3)}
	for i := range around.Kids {
		around.Kids[i] = around
	}
	deep := number(1)
	for range 1000000 {
		deep = op(api.OpNot, deep)
	}
	broad := api.Expr{Op: api.OpAdd, Kids: make([]api.Expr, 1000000)}
	// None of these can be shown in an error.
	for name, e := range map[string]api.Expr{"many nodes": many, "parts of themselves": around, "deep": deep, "broad": broad} {
		if got, f := types.Infer(e); got != 0 || f != api.ErrArg {
			t.Errorf("%s: Infer is %d, %v", name, got, f)
		}
		when := changed(func(r *api.Rate) { r.When = e })
		price := changed(func(r *api.Rate) { r.Price = e })
		for _, x := range []api.Rate{when, price} {
			if got, f := types.Rate(x); got || f != api.ErrArg {
				t.Errorf("%s: Rate is %v, %v", name, got, f)
			}
		}
		if types.Valid([]api.Rate{when}) || types.Valid([]api.Rate{example(), price}) {
			t.Errorf("%s: Valid is true", name)
		}
	}
	numbers := []int{math.MinInt, -1, 0, 1, 60, 100, 366, 999999999, 1000000000, math.MaxInt}
	r := rand.New(rand.NewSource(109))
	any := func() int { return numbers[r.Intn(len(numbers))] }
	for range 20000 {
		x := api.Rate{ID: any(), Level: any(), Kind: any(), Season: api.Span{From: any(), Until: any()}, Least: any(), Most: any(), Arrive: any(), Keep: api.Rat{N: any(), D: any()}, When: number(any()), Price: amount(any())}
		if fine, e := types.Rate(x); fine || e != api.ErrArg && e != api.ErrType {
			t.Fatalf("Rate(%v) = %v, %v", x, fine, e)
		}
		if types.Valid([]api.Rate{x}) {
			t.Fatalf("%v is valid", x)
		}
	}
	if types.Valid(make([]api.Rate, 1000000)) || types.Valid(make([]api.Rate, 1)) {
		t.Error("rates without anything in them are valid")
	}
}

// TestArgumentsStay checks the document's Rules: calls change no argument, and are repeatable.
func TestArgumentsStay(t *testing.T) {
	r := rand.New(rand.NewSource(110))
	for range 300 {
		e := someExpr(r, 1+r.Intn(30), 30)
		want := copyOf(e)
		for range 2 {
			wantType(t, e, expect(want))
		}
		l := []api.Rate{someRate(r), someRate(r)}
		l[1].ID = 1 + l[0].ID%1000000
		before := slices.Clone(l)
		for i := range before {
			before[i].When, before[i].Price = copyOf(l[i].When), copyOf(l[i].Price)
		}
		for range 2 {
			wantRate(t, l[0], api.OK)
			if !types.Valid(l) {
				t.Fatalf("%s are not valid", show(l))
			}
		}
		if !same(e, want) || !slices.EqualFunc(l, before, sameRate) {
			t.Fatalf("calls left %s and %s", show(e), show(l))
		}
	}
}
