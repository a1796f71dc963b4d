package ratio_test

import (
	"testing"

	"innkeeper/api"
	"innkeeper/ratio"
)

// samples returns valid ratios: small ones, and ones at the limits.
func samples() []api.Rat {
	l := []api.Rat{rat(0, 1)}
	for _, r := range []api.Rat{
		rat(1, 1), rat(2, 1), rat(3, 1), rat(1, 2), rat(3, 2), rat(5, 2), rat(7, 2), rat(1, 3), rat(2, 3), rat(4, 3), rat(3, 4), rat(5, 6),
		rat(1, 1000), rat(999, 1000), rat(1, 999999), rat(1, 1000000), rat(999999, 1000000), rat(500001, 1000000),
		rat(999999999, 1000000), rat(1000000000, 999999), rat(999999999, 2), rat(500000000, 1), rat(1000000000, 1),
	} {
		l = append(l, r, rat(-r.N, r.D))
	}
	return l
}

// triples calls check with all triples of samples.
func triples(check func(a, b, c api.Rat)) {
	l := samples()
	for _, a := range l {
		for _, b := range l {
			for _, c := range l {
				check(a, b, c)
			}
		}
	}
}

// sum and product return results, and whether all of them exist so far.
func sum(a, b api.Rat, all *bool) api.Rat {
	r, e := ratio.Add(a, b)
	*all = *all && e == api.OK
	return r
}

func product(a, b api.Rat, all *bool) api.Rat {
	r, e := ratio.Mul(a, b)
	*all = *all && e == api.OK
	return r
}

// TestSums checks P1.2.
func TestSums(t *testing.T) {
	checked := 0
	triples(func(a, b, c api.Rat) {
		ab, e := ratio.Add(a, b)
		ba, f := ratio.Add(b, a)
		if ab != ba || e != f {
			t.Errorf("%v + %v = %v, %v; turned round %v, %v", a, b, ab, e, ba, f)
		}
		if e == api.OK {
			if back, g := ratio.Sub(ab, b); back != a || g != api.OK {
				t.Errorf("%v + %v - %v = %v, %v", a, b, b, back, g)
			}
		}
		all := true
		left := sum(sum(a, b, &all), c, &all)
		right := sum(a, sum(b, c, &all), &all)
		if all {
			checked++
			if left != right {
				t.Errorf("%v + %v + %v = %v and %v", a, b, c, left, right)
			}
		}
	})
	if checked < 1000 {
		t.Errorf("only %d sums of three exist", checked)
	}
}

// TestDifferences checks that what is subtracted and added again leaves the ratio as it was, for P1.2.
func TestDifferences(t *testing.T) {
	for _, a := range samples() {
		for _, b := range samples() {
			d, e := ratio.Sub(a, b)
			if e != api.OK {
				continue
			}
			if back, f := ratio.Add(d, b); back != a || f != api.OK {
				t.Errorf("%v - %v + %v = %v, %v", a, b, b, back, f)
			}
		}
	}
}

// TestProducts checks P1.3.
func TestProducts(t *testing.T) {
	checked := 0
	triples(func(a, b, c api.Rat) {
		ab, e := ratio.Mul(a, b)
		ba, f := ratio.Mul(b, a)
		if ab != ba || e != f {
			t.Errorf("%v * %v = %v, %v; turned round %v, %v", a, b, ab, e, ba, f)
		}
		all := true
		whole := product(a, sum(b, c, &all), &all)
		parts := sum(product(a, b, &all), product(a, c, &all), &all)
		if all {
			checked++
			if whole != parts {
				t.Errorf("%v * (%v + %v) = %v and %v", a, b, c, whole, parts)
			}
		}
	})
	if checked < 1000 {
		t.Errorf("only %d products with sums exist", checked)
	}
	for _, a := range samples() {
		if r, e := ratio.Mul(a, rat(1, 1)); r != a || e != api.OK {
			t.Errorf("%v * 1 = %v, %v", a, r, e)
		}
		if r, e := ratio.Mul(a, rat(0, 1)); r != rat(0, 1) || e != api.OK {
			t.Errorf("%v * 0 = %v, %v", a, r, e)
		}
	}
}

// TestOrder checks P1.4.
func TestOrder(t *testing.T) {
	triples(func(a, b, c api.Rat) {
		ab, e := ratio.Compare(a, b)
		bc, f := ratio.Compare(b, c)
		ac, g := ratio.Compare(a, c)
		if e != api.OK || f != api.OK || g != api.OK {
			t.Errorf("errors %v, %v, %v", e, f, g)
		}
		if (ab == 0) != (a == b) {
			t.Errorf("Compare(%v, %v) = %d", a, b, ab)
		}
		if ab <= 0 && bc <= 0 && (ac > 0 || ac == 0 && (ab < 0 || bc < 0)) {
			t.Errorf("%v, %v, %v: %d, %d, but %d", a, b, c, ab, bc, ac)
		}
		if more, h := ratio.Sub(b, a); h == api.OK && (ab < 0) != (more.N > 0) {
			t.Errorf("Compare(%v, %v) = %d, but they differ by %v", a, b, ab, more)
		}
	})
}

// rounded returns a ratio rounded in the three ways.
func rounded(t *testing.T, r api.Rat) (low, high, near int) {
	t.Helper()
	low, e := ratio.Round(r, api.RoundDown)
	high, f := ratio.Round(r, api.RoundUp)
	near, g := ratio.Round(r, api.RoundEven)
	if e != api.OK || f != api.OK || g != api.OK {
		t.Errorf("%v: errors %v, %v, %v", r, e, f, g)
	}
	return low, high, near
}

// TestRounding checks P1.5.
func TestRounding(t *testing.T) {
	l := samples()
	for d := 1; d <= 12; d++ {
		for n := -60; n <= 60; n++ {
			if r := rat(n, d); ratio.Valid(r) {
				l = append(l, r)
			}
		}
	}
	for _, r := range l {
		low, high, near := rounded(t, r)
		if low*r.D > r.N || high*r.D < r.N {
			t.Errorf("%v is not between %d and %d", r, low, high)
		}
		apart := 1
		if r.D == 1 {
			apart = 0
		}
		if high-low != apart {
			t.Errorf("%v: %d and %d", r, low, high)
		}
		// 2 * away / D is how far the nearest one is away, in halves.
		away := max(near*r.D-r.N, r.N-near*r.D)
		if near != low && near != high || 2*away > r.D || 2*away == r.D && near%2 != 0 {
			t.Errorf("%v: nearest is %d", r, near)
		}
		negLow, negHigh, negNear := rounded(t, rat(-r.N, r.D))
		if negLow != -high || negHigh != -low || negNear != -near {
			t.Errorf("%v: %d, %d, %d, and of the negative %d, %d, %d", r, low, high, near, negLow, negHigh, negNear)
		}
	}
}

// TestParts checks P1.6.
func TestParts(t *testing.T) {
	ns := []int{-1000000000, -999999999, -10000, -1003, -7, -3, -2, -1, 0, 1, 2, 3, 7, 9, 1003, 10000, 999999999, 1000000000}
	for _, part := range samples() {
		for way := 1; way <= 3; way++ {
			last, any := 0, false
			for _, n := range ns {
				k, e := ratio.Part(n, part, way)
				if whole, f := ratio.Mul(rat(n, 1), part); f == api.OK {
					m, g := ratio.Round(whole, way)
					if k != m || e != g {
						t.Errorf("Part(%d, %v, %d) = %d, %v; the product rounded is %d, %v", n, part, way, k, e, m, g)
					}
				}
				if e != api.OK || part.N < 0 {
					continue
				}
				if any && k < last {
					t.Errorf("Part(%d, %v, %d) = %d, after %d", n, part, way, k, last)
				}
				last, any = k, true
			}
		}
	}
}

// TestOneForm checks P1.7.
func TestOneForm(t *testing.T) {
	for _, r := range samples() {
		for _, by := range []int{1, 2, 3, 7, 10, 999983, 1000000} {
			for _, sign := range []int{1, -1} {
				made, e := ratio.Make(r.N*by*sign, r.D*by*sign)
				if made != r || e != api.OK {
					t.Errorf("%v by %d is %v, %v", r, by*sign, made, e)
				}
			}
		}
	}
	for n := -30; n <= 30; n++ {
		for d := 1; d <= 30; d++ {
			for m := -30; m <= 30; m++ {
				a, e := ratio.Make(n, d)
				b, f := ratio.Make(m, d+1)
				if e != api.OK || f != api.OK || (a == b) != (n*(d+1) == m*d) {
					t.Errorf("%d/%d and %d/%d are %v, %v and %v, %v", n, d, m, d+1, a, e, b, f)
				}
			}
		}
	}
}
