package rate_test

import (
	"math/big"
	"math/rand"
	"slices"
	"strconv"
	"strings"
	"testing"

	"innkeeper/api"
	"innkeeper/parser"
	"innkeeper/types"
)

// The model reads the chapter sentence by sentence, with the fractions of math/big.

// modelRat returns a number as a valid ratio, or nil and ErrRange.
func modelRat(x *big.Rat) (*big.Rat, api.Errno) {
	most := big.NewInt(1000000000)
	if x.Num().CmpAbs(most) > 0 || x.Denom().Cmp(big.NewInt(1000000)) > 0 {
		return nil, api.ErrRange
	}
	return x, api.OK
}

// modelTruth returns the value of what is true or false.
func modelTruth(is bool) *big.Rat {
	if is {
		return big.NewRat(1, 1)
	}
	return new(big.Rat)
}

// modelTwo returns the value of an operator with two of Kids, which have values.
func modelTwo(op int, a, b *big.Rat) (*big.Rat, api.Errno) {
	x := new(big.Rat)
	switch op {
	case api.OpAdd:
		return modelRat(x.Add(a, b))
	case api.OpSub:
		return modelRat(x.Sub(a, b))
	case api.OpMul:
		return modelRat(x.Mul(a, b))
	case api.OpDiv:
		if b.Sign() == 0 {
			return nil, api.ErrPrice
		}
		return modelRat(x.Quo(a, b))
	case api.OpMin, api.OpMax:
		l := []*big.Rat{a, b}
		slices.SortFunc(l, func(a, b *big.Rat) int { return a.Cmp(b) })
		return l[op-api.OpMin], api.OK
	case api.OpLess:
		return modelTruth(a.Cmp(b) == -1), api.OK
	case api.OpEqual:
		return modelTruth(a.Cmp(b) == 0), api.OK
	case api.OpAnd:
		return modelTruth(a.Sign() == 1 && b.Sign() == 1), api.OK
	case api.OpOr:
		return modelTruth(a.Sign() == 1 || b.Sign() == 1), api.OK
	}
	panic("the Op " + strconv.Itoa(op))
}

// modelValue returns the value of an expression that has a type.
func modelValue(e api.Expr, vars [4]int) (*big.Rat, api.Errno) {
	switch e.Op {
	case api.OpNumber, api.OpMoney:
		return big.NewRat(int64(e.N), 1), api.OK
	case api.OpVar:
		return big.NewRat(int64(vars[e.N-1]), 1), api.OK
	}
	first, f := modelValue(e.Kids[0], vars)
	if f != api.OK {
		return nil, f
	}
	switch e.Op {
	case api.OpNot:
		return modelTruth(first.Sign() == 0), api.OK
	case api.OpIf:
		return modelValue(e.Kids[2-first.Sign()], vars)
	}
	second, f := modelValue(e.Kids[1], vars)
	if f != api.OK {
		return nil, f
	}
	return modelTwo(e.Op, first, second)
}

// modelEval returns what Eval has to return for an expression that has a type.
func modelEval(e api.Expr, vars [4]int) (api.Rat, api.Errno) {
	x, f := modelValue(e, vars)
	if f != api.OK {
		return api.Rat{}, f
	}
	return api.Rat{N: int(x.Num().Int64()), D: int(x.Denom().Int64())}, api.OK
}

// modelRound returns the nearest integer, or the even one of two.
func modelRound(x *big.Rat) int {
	// Twice the number and a half, rounded down, is what is nearest, but for halves that have to go down.
	half := new(big.Rat).Add(x, big.NewRat(1, 2))
	n := new(big.Int).Div(half.Num(), half.Denom())
	if half.IsInt() && n.Bit(0) == 1 {
		n.Sub(n, big.NewInt(1))
	}
	return int(n.Int64())
}

// days are the weekdays from Monday on, as night 0 is a Thursday.
var days = map[string]int{"Monday": 0, "Tuesday": 1, "Wednesday": 2, "Thursday": 3, "Friday": 4, "Saturday": 5, "Sunday": 6}

// modelDay returns the weekday of a night.
func modelDay(night int) int {
	return days[[]string{"Thursday", "Friday", "Saturday", "Sunday", "Monday", "Tuesday", "Wednesday"}[night%7]]
}

// modelVars returns the variables of a night of an ask.
func modelVars(a api.Ask, night int) [4]int {
	return [4]int{a.Until - a.From, a.Persons, night - a.From, modelDay(night)}
}

// modelApplies returns what Applies has to return for a rate that can be used, and a night of a well-formed ask.
func modelApplies(r api.Rate, a api.Ask, night int) (bool, api.Errno) {
	if r.Kind != a.Kind {
		return false, api.OK
	}
	if night < r.Season.From || night >= r.Season.Until {
		return false, api.OK
	}
	if nights := a.Until - a.From; nights < r.Least || nights > r.Most {
		return false, api.OK
	}
	bits := strings.Split("1 2 4 8 16 32 64", " ")
	if bit, _ := strconv.Atoi(bits[modelDay(a.From)]); r.Arrive/bit%2 == 0 {
		return false, api.OK
	}
	x, e := modelValue(r.When, modelVars(a, night))
	return e == api.OK && x.Sign() == 1, e
}

// modelNight returns what Night has to return for rates that can be used together, and a night of a well-formed ask; and the part that is kept.
func modelNight(l []api.Rate, a api.Ask, night int) (cents, rate int, keep api.Rat, e api.Errno) {
	var fits []api.Rate
	for _, r := range l {
		is, e := modelApplies(r, a, night)
		if e != api.OK {
			return 0, 0, api.Rat{}, e
		}
		if is {
			fits = append(fits, r)
		}
	}
	if fits == nil {
		return 0, 0, api.Rat{}, api.ErrNone
	}
	slices.SortFunc(fits, func(a, b api.Rate) int { return slices.Compare([]int{-a.Level, a.ID}, []int{-b.Level, b.ID}) })
	x, e := modelValue(fits[0].Price, modelVars(a, night))
	if e != api.OK {
		return 0, 0, api.Rat{}, e
	}
	if cents = modelRound(x); cents < 0 {
		return 0, 0, api.Rat{}, api.ErrPrice
	}
	return cents, fits[0].ID, fits[0].Keep, api.OK
}

// modelPrice returns what Price has to return for rates that can be used together, and a well-formed ask.
func modelPrice(l []api.Rate, a api.Ask) (nights []int, keep int, e api.Errno) {
	all := 0
	for i := range a.Until - a.From {
		cents, _, part, e := modelNight(l, a, a.From+i)
		if e != api.OK {
			return nil, 0, e
		}
		nights = append(nights, cents)
		all += cents
		keep += modelRound(new(big.Rat).Mul(big.NewRat(int64(cents), 1), big.NewRat(int64(part.N), int64(part.D))))
	}
	if all > 1000000000 {
		return nil, 0, api.ErrRange
	}
	return nights, keep, api.OK
}

// forms are how expressions of a type are written, with N for a number, M for money and T for a truth.
var forms = map[byte][]string{
	'N': {"nights", "persons", "night", "weekday", "0", "1", "2", "3", "7", "999999999", "(N + N)", "(N - N)", "(N * N)", "(N / N)", "min(N, N)", "max(N, N)", "(if T then N else N)"},
	'M': {"0.00", "0.01", "0.50", "1.00", "80.00", "99.99", "10000000.00", "(M + M)", "(M - M)", "(M * N)", "(N * M)", "(M / N)", "min(M, M)", "max(M, M)", "(if T then M else M)"},
	'T': {"1 = 1", "1 = 2", "(N < N)", "(N = N)", "(M < M)", "(M = M)", "(T and T)", "(T or T)", "(not T)", "(if T then T else T)"},
}

// simple is how many of the first forms of a type have no parts.
var simple = map[byte]int{'N': 10, 'M': 7, 'T': 2}

// someText returns the text of an expression of a type, with so many operators at most inside each other.
func someText(r *rand.Rand, is byte, deep int) string {
	l := forms[is]
	if deep == 0 {
		l = l[:simple[is]]
	} else if r.Intn(4) > 0 {
		l = l[simple[is]:]
	}
	var b strings.Builder
	for _, c := range l[r.Intn(len(l))] {
		if forms[byte(c)] != nil {
			b.WriteString(someText(r, byte(c), deep-1))
		} else {
			b.WriteRune(c)
		}
	}
	return b.String()
}

// someExpr returns an expression of a type.
func someExpr(r *rand.Rand, is byte, deep int) api.Expr {
	for {
		if e, f := parser.Expr(someText(r, is, deep)); f == api.OK {
			return e
		}
	}
}

// someVars returns variables.
func someVars(r *rand.Rand) [4]int {
	return [4]int{1 + r.Intn(60), 1 + r.Intn(8), r.Intn(60), r.Intn(7)}
}

// someAsk returns a well-formed ask for a kind up to 3, often with few nights.
func someAsk(r *rand.Rand) api.Ask {
	nights := 1 + r.Intn([]int{3, 10, 60}[r.Intn(3)])
	from := r.Intn(367 - nights)
	return api.Ask{Kind: 1 + r.Intn(3), From: from, Until: from + nights, Persons: 1 + r.Intn(8)}
}

// someRate returns a rate that can be used, which is likely to apply to the nights of an ask, and unlikely to have no price.
func someRate(r *rand.Rand, a api.Ask) api.Rate {
	deep := r.Intn(4)
	x := api.Rate{
		ID: 1 + r.Intn(1000000), Level: r.Intn(3), Kind: a.Kind, Season: api.Span{From: 0, Until: 366}, Least: 1, Most: 60, Arrive: 127,
		Keep: []api.Rat{{N: 0, D: 1}, {N: 1, D: 1}, {N: 1, D: 2}, {N: 2, D: 3}, {N: 1, D: 1000000}}[r.Intn(5)],
		When: someExpr(r, 'T', deep), Price: someExpr(r, 'M', deep),
	}
	if r.Intn(2) == 0 {
		x.When = someExpr(r, 'T', 0)
	}
	if r.Intn(4) > 0 {
		x.Price = api.Expr{Op: api.OpMoney, N: r.Intn(20000)}
	}
	nights := a.Until - a.From
	switch r.Intn(8) {
	case 0:
		x.Kind = 1 + r.Intn(3)
	case 1:
		x.Season.From = min(365, max(0, a.From+r.Intn(3)-1))
	case 2:
		x.Season.Until = min(366, a.Until+r.Intn(3)-1)
	case 3:
		x.Least = min(60, max(1, nights+r.Intn(3)-1))
	case 4:
		x.Most = min(60, max(1, nights+r.Intn(3)-1))
	case 5:
		x.Arrive = 1 + r.Intn(127)
	}
	if x.Season.From >= x.Season.Until {
		x.Season.From = x.Season.Until - 1
		if x.Season.Until == 0 {
			x.Season = api.Span{From: 0, Until: 1}
		}
	}
	return x
}

// someRates returns rates that can be used together.
func someRates(r *rand.Rand, many int, a api.Ask) []api.Rate {
	var l []api.Rate
	for len(l) < many {
		x := someRate(r, a)
		if !slices.ContainsFunc(l, func(y api.Rate) bool { return x.ID == y.ID }) {
			l = append(l, x)
		}
	}
	return l
}

// TestModelEval checks P11.1 for K1, and P11.2: values of random expressions.
func TestModelEval(t *testing.T) {
	r := rand.New(rand.NewSource(111))
	seen := map[api.Errno]int{}
	halves := 0
	for i := range 40000 {
		e, vars := someExpr(r, "NMT"[i%3], r.Intn(6)), someVars(r)
		want, f := modelEval(e, vars)
		wantValue(t, e, vars, want, f)
		seen[f]++
		if want.D > 1 {
			halves++
		}
	}
	if seen[api.OK] < 10000 || seen[api.ErrPrice] < 1000 || seen[api.ErrRange] < 1000 || halves < 1000 {
		t.Errorf("errors: %v, and %d fractions; want many of each", seen, halves)
	}
}

// TestModelApplies checks P11.1 for K2: random rates.
func TestModelApplies(t *testing.T) {
	r := rand.New(rand.NewSource(112))
	seen := map[bool]int{}
	wrong := 0
	for range 20000 {
		a := someAsk(r)
		x := someRate(r, a)
		night := a.From + r.Intn(a.Until-a.From)
		want, e := modelApplies(x, a, night)
		wantApplies(t, x, a, night, want, e)
		seen[want]++
		if e != api.OK {
			wrong++
		}
	}
	if seen[true] < 3000 || seen[false] < 3000 || wrong < 300 {
		t.Errorf("results: %v, and %d errors; want many of each", seen, wrong)
	}
}

// TestModelPrice checks P11.1 for K3 and K4: random lists of rates.
func TestModelPrice(t *testing.T) {
	r := rand.New(rand.NewSource(113))
	seen := map[api.Errno]int{}
	for i := range 6000 {
		a := someAsk(r)
		l := someRates(r, r.Intn([]int{3, 10, 101}[min(2, i%50/24)]), a)
		if !types.Valid(l) {
			t.Fatalf("%s cannot be used together", show(l))
		}
		nights, keep, e := modelPrice(l, a)
		wantPrice(t, l, a, nights, keep, e)
		seen[e]++
		night := a.From + r.Intn(a.Until-a.From)
		cents, id, _, e := modelNight(l, a, night)
		wantNight(t, l, a, night, cents, id, e)
	}
	if seen[api.OK] < 1000 || seen[api.ErrNone] < 500 || seen[api.ErrPrice] < 100 || seen[api.ErrRange] < 100 {
		t.Errorf("errors: %v; want many of each", seen)
	}
}
