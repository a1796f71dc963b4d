package ratio_test

import (
	"math"
	"math/big"
	"math/rand"
	"testing"

	"innkeeper/api"
	"innkeeper/ratio"
)

// exact returns the number that a ratio is, without any limit.
func exact(r api.Rat) *big.Rat { return big.NewRat(int64(r.N), int64(r.D)) }

// valid returns the valid ratio that a number is, or ErrRange.
func valid(x *big.Rat) (api.Rat, api.Errno) {
	most, denom := big.NewInt(api.MaxRat), big.NewInt(api.MaxDenom)
	if x.Num().CmpAbs(most) > 0 || x.Denom().Cmp(denom) > 0 {
		return api.Rat{}, api.ErrRange
	}
	return api.Rat{N: int(x.Num().Int64()), D: int(x.Denom().Int64())}, api.OK
}

// floor returns the greatest integer that is not greater.
func floor(x *big.Rat) int {
	// Div is Euclidean, which is the floor, since the denominator is positive.
	return int(new(big.Int).Div(x.Num(), x.Denom()).Int64())
}

// nearest returns a number rounded in a way, by the document's words.
func nearest(x *big.Rat, way int) int {
	up := -floor(new(big.Rat).Neg(x))
	if way == api.RoundDown {
		return floor(x)
	}
	if way == api.RoundUp {
		return up
	}
	half := new(big.Rat).Add(x, big.NewRat(1, 2))
	n := floor(half)
	if half.IsInt() && n%2 != 0 {
		n--
	}
	return n
}

// random returns a valid ratio; many are small, and many are at the limits.
func random(r *rand.Rand) api.Rat {
	for {
		n, d := r.Intn(41)-20, 1+r.Intn(12)
		switch r.Intn(4) {
		case 0:
			n, d = r.Intn(2*api.MaxRat+1)-api.MaxRat, 1+r.Intn(api.MaxDenom)
		case 1:
			n, d = api.MaxRat-r.Intn(9), api.MaxDenom-r.Intn(9)
		case 2:
			n, d = r.Intn(2001)-1000, 1+r.Intn(1000)
		}
		if x, e := valid(big.NewRat(int64(n), int64(d))); e == api.OK {
			return x
		}
	}
}

// TestExact checks P1.1 for A2 to A8 against exact numbers.
func TestExact(t *testing.T) {
	r := rand.New(rand.NewSource(1))
	for range 20000 {
		a, b := random(r), random(r)
		x, y := exact(a), exact(b)
		for _, c := range []struct {
			operation
			want *big.Rat
		}{
			{operation{"Add", ratio.Add}, new(big.Rat).Add(x, y)},
			{operation{"Sub", ratio.Sub}, new(big.Rat).Sub(x, y)},
			{operation{"Mul", ratio.Mul}, new(big.Rat).Mul(x, y)},
		} {
			want, f := valid(c.want)
			if got, e := c.call(a, b); got != want || e != f {
				t.Fatalf("%s(%v, %v) = %v, %v; want %v, %v", c.name, a, b, got, e, want, f)
			}
		}
		if n, e := ratio.Compare(a, b); n != x.Cmp(y) || e != api.OK {
			t.Fatalf("Compare(%v, %v) = %d, %v", a, b, n, e)
		}
		exactRounding(t, a, b.N)
		n, d := a.N*b.D, b.N*a.D
		if d == 0 {
			d = -a.D
		}
		want, f := valid(big.NewRat(int64(n), int64(d)))
		if got, e := ratio.Make(n, d); got != want || e != f {
			t.Fatalf("Make(%d, %d) = %v, %v; want %v, %v", n, d, got, e, want, f)
		}
	}
}

// exactRounding checks Round of a, and Part of n and a.
func exactRounding(t *testing.T, a api.Rat, n int) {
	t.Helper()
	for way := 1; way <= 3; way++ {
		if k, e := ratio.Round(a, way); k != nearest(exact(a), way) || e != api.OK {
			t.Fatalf("Round(%v, %d) = %d, %v", a, way, k, e)
		}
		want, f := nearest(new(big.Rat).Mul(exact(a), big.NewRat(int64(n), 1)), way), api.OK
		if want < -api.MaxCents || want > api.MaxCents {
			want, f = 0, api.ErrRange
		}
		if k, e := ratio.Part(n, a, way); k != want || e != f {
			t.Fatalf("Part(%d, %v, %d) = %d, %v; want %d, %v", n, a, way, k, e, want, f)
		}
	}
}

// extremes returns integers at which arithmetic could go wrong.
func extremes() []int {
	return []int{
		math.MinInt, math.MinInt + 1, math.MinInt32, -1000000000000001, -1000000000000000, -1000000001, -1000000000, -1000001, -2, -1,
		0, 1, 2, 3, 6, 1000000, 1000001, 1000000000, 1000000001, 1000000000000000, 1000000000000001, math.MaxInt - 1, math.MaxInt,
	}
}

// TestAllArguments checks P1: no call panics, errors are those of the chapter and come with zero values, and calls are repeatable.
func TestAllArguments(t *testing.T) {
	var rats []api.Rat
	for _, n := range extremes() {
		for _, d := range extremes() {
			rats = append(rats, rat(n, d))
			r, e := ratio.Make(n, d)
			wellFormed(t, r, e)
		}
	}
	for _, a := range rats {
		for _, b := range rats {
			both := ratio.Valid(a) && ratio.Valid(b)
			for _, call := range []func(a, b api.Rat) (api.Rat, api.Errno){ratio.Add, ratio.Sub, ratio.Mul} {
				r, e := call(a, b)
				wellFormed(t, r, e)
				if again, f := call(a, b); again != r || f != e || (e != api.ErrArg) != both {
					t.Errorf("%v and %v: %v, %v, then %v, %v", a, b, r, e, again, f)
				}
			}
			n, e := ratio.Compare(a, b)
			if n < -1 || n > 1 || (e == api.OK) != both || e != api.OK && (n != 0 || e != api.ErrArg) {
				t.Errorf("Compare(%v, %v) = %d, %v", a, b, n, e)
			}
		}
		for _, way := range extremes() {
			known := ratio.Valid(a) && way >= 1 && way <= 3
			n, e := ratio.Round(a, way)
			if (e == api.OK) != known || e != api.OK && (n != 0 || e != api.ErrArg) {
				t.Errorf("Round(%v, %d) = %d, %v", a, way, n, e)
			}
			for _, n := range extremes() {
				k, e := ratio.Part(n, a, way)
				fine := known && n >= -api.MaxCents && n <= api.MaxCents
				if (e != api.ErrArg) != fine || e != api.OK && e != api.ErrArg && e != api.ErrRange || e != api.OK && k != 0 || k < -api.MaxCents || k > api.MaxCents {
					t.Errorf("Part(%d, %v, %d) = %d, %v", n, a, way, k, e)
				}
			}
		}
	}
}

// wellFormed checks that a ratio is valid without an error, and zero with one.
func wellFormed(t *testing.T, r api.Rat, e api.Errno) {
	t.Helper()
	good := e == api.OK && ratio.Valid(r)
	bad := (e == api.ErrArg || e == api.ErrRange) && r == api.Rat{}
	if !good && !bad {
		t.Errorf("result %v, %v", r, e)
	}
}
