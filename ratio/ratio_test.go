package ratio_test

import (
	"math"
	"testing"

	"innkeeper/api"
	"innkeeper/ratio"
)

// rat returns a ratio as it is written, valid or not.
func rat(n, d int) api.Rat { return api.Rat{N: n, D: d} }

// invalid returns ratios that miss one condition of a valid one each.
func invalid() []api.Rat {
	return []api.Rat{
		{},
		rat(1, 0),
		rat(1, -1),
		rat(0, 2),
		rat(0, 1000000),
		rat(2, 4),
		rat(-3, 9),
		rat(1000000, 1000000),
		rat(1, 1000001),
		rat(1000000001, 1),
		rat(-1000000001, 1),
		rat(1000000001, 2),
		rat(math.MaxInt, 1),
		rat(math.MinInt, 1),
		rat(1, math.MaxInt),
		rat(1, math.MinInt),
		rat(math.MinInt, math.MinInt),
	}
}

// TestValid checks P1.1 for A1.
func TestValid(t *testing.T) {
	for _, r := range []api.Rat{rat(0, 1), rat(1, 1), rat(-1, 1), rat(-3, 2), rat(1, 1000000), rat(-1, 1000000), rat(1000000000, 1), rat(-1000000000, 1), rat(1000000000, 999999), rat(999999999, 1000000)} {
		if !ratio.Valid(r) {
			t.Errorf("%v is not valid", r)
		}
	}
	for _, r := range invalid() {
		if ratio.Valid(r) {
			t.Errorf("%v is valid", r)
		}
	}
}

// TestMake checks P1.1 for A2, with both ends of each limit.
func TestMake(t *testing.T) {
	const most = 1000000000000000
	for _, x := range []struct {
		n, d int
		want api.Rat
		e    api.Errno
	}{
		{6, -4, rat(-3, 2), api.OK},
		{6, 4, rat(3, 2), api.OK},
		{-6, 4, rat(-3, 2), api.OK},
		{-6, -4, rat(3, 2), api.OK},
		{3, 6, rat(1, 2), api.OK},
		{0, 5, rat(0, 1), api.OK},
		{0, -5, rat(0, 1), api.OK},
		{0, most, rat(0, 1), api.OK},
		{7, 1, rat(7, 1), api.OK},
		{7, -1, rat(-7, 1), api.OK},
		{most, most, rat(1, 1), api.OK},
		{-most, most, rat(-1, 1), api.OK},
		{most, -most, rat(-1, 1), api.OK},
		{most, 1000000, rat(1000000000, 1), api.OK},
		{-most, 1000000, rat(-1000000000, 1), api.OK},
		{1000000000, most, rat(1, 1000000), api.OK},
		{1, 1000000, rat(1, 1000000), api.OK},
		{1, -1000000, rat(-1, 1000000), api.OK},

		{1000000001, 1, api.Rat{}, api.ErrRange},
		{-1000000001, 1, api.Rat{}, api.ErrRange},
		{1, 1000001, api.Rat{}, api.ErrRange},
		{1, -1000001, api.Rat{}, api.ErrRange},
		{1, most, api.Rat{}, api.ErrRange},
		{most, 1, api.Rat{}, api.ErrRange},
		{most, most - 1, api.Rat{}, api.ErrRange},

		{1, 0, api.Rat{}, api.ErrArg},
		{0, 0, api.Rat{}, api.ErrArg},
		{most + 1, 1, api.Rat{}, api.ErrArg},
		{-most - 1, 1, api.Rat{}, api.ErrArg},
		{1, most + 1, api.Rat{}, api.ErrArg},
		{1, -most - 1, api.Rat{}, api.ErrArg},
		{most + 1, most + 1, api.Rat{}, api.ErrArg},
		{0, most + 1, api.Rat{}, api.ErrArg},
		{most + 1, 0, api.Rat{}, api.ErrArg},
		{math.MinInt, -1, api.Rat{}, api.ErrArg},
		{math.MinInt, math.MinInt, api.Rat{}, api.ErrArg},
		{math.MaxInt, math.MaxInt, api.Rat{}, api.ErrArg},
	} {
		r, e := ratio.Make(x.n, x.d)
		if r != x.want || e != x.e {
			t.Errorf("Make(%d, %d) = %v, %v; want %v, %v", x.n, x.d, r, e, x.want, x.e)
		}
	}
}

// operation is one of the functions of two ratios.
type operation struct {
	name string
	call func(a, b api.Rat) (api.Rat, api.Errno)
}

// TestOperations checks P1.1 for A3, A4 and A5.
func TestOperations(t *testing.T) {
	add, sub, mul := operation{"Add", ratio.Add}, operation{"Sub", ratio.Sub}, operation{"Mul", ratio.Mul}
	for _, x := range []struct {
		by         operation
		a, b, want api.Rat
		e          api.Errno
	}{
		{add, rat(1, 2), rat(1, 3), rat(5, 6), api.OK},
		{add, rat(1, 2), rat(1, 2), rat(1, 1), api.OK},
		{add, rat(1, 6), rat(1, 3), rat(1, 2), api.OK},
		{add, rat(5, 7), rat(-5, 7), rat(0, 1), api.OK},
		{add, rat(999999999, 1), rat(1, 1), rat(1000000000, 1), api.OK},
		{add, rat(1, 1000), rat(1, 999), rat(1999, 999000), api.OK},
		// The sum is 2 * 10^15 / 10^12 before it is reduced, more than Make takes.
		{add, rat(999999999, 1000000), rat(999999999, 1000000), rat(999999999, 500000), api.OK},
		{add, rat(1000000000, 1), rat(1, 1), api.Rat{}, api.ErrRange},
		{add, rat(-1000000000, 1), rat(-1, 1), api.Rat{}, api.ErrRange},
		{add, rat(1, 999999), rat(1, 1000000), api.Rat{}, api.ErrRange},
		{add, rat(1000000000, 1), rat(1, 2), api.Rat{}, api.ErrRange},

		{sub, rat(1, 2), rat(1, 3), rat(1, 6), api.OK},
		{sub, rat(1, 3), rat(1, 2), rat(-1, 6), api.OK},
		{sub, rat(3, 4), rat(1, 4), rat(1, 2), api.OK},
		{sub, rat(5, 7), rat(5, 7), rat(0, 1), api.OK},
		{sub, rat(-999999999, 1000000), rat(999999999, 1000000), rat(-999999999, 500000), api.OK},
		{sub, rat(1000000000, 1), rat(-1, 1), api.Rat{}, api.ErrRange},
		{sub, rat(-1000000000, 1), rat(1, 1), api.Rat{}, api.ErrRange},
		{sub, rat(1, 999999), rat(1, 1000000), api.Rat{}, api.ErrRange},

		{mul, rat(2, 3), rat(3, 4), rat(1, 2), api.OK},
		{mul, rat(-2, 3), rat(3, 2), rat(-1, 1), api.OK},
		{mul, rat(-2, 3), rat(-3, 2), rat(1, 1), api.OK},
		{mul, rat(0, 1), rat(1, 1000000), rat(0, 1), api.OK},
		{mul, rat(1000000000, 1), rat(1, 1000000), rat(1000, 1), api.OK},
		{mul, rat(1000000000, 999999), rat(999999, 1000000), rat(1000, 1), api.OK},
		{mul, rat(1, 1000), rat(1, 1000), rat(1, 1000000), api.OK},
		{mul, rat(1, 1000000), rat(1, 2), api.Rat{}, api.ErrRange},
		{mul, rat(1, 1000000), rat(-1, 1000000), api.Rat{}, api.ErrRange},
		{mul, rat(1000000000, 1), rat(2, 1), api.Rat{}, api.ErrRange},
		{mul, rat(1000000000, 1), rat(-1000000000, 1), api.Rat{}, api.ErrRange},
	} {
		r, e := x.by.call(x.a, x.b)
		if r != x.want || e != x.e {
			t.Errorf("%s(%v, %v) = %v, %v; want %v, %v", x.by.name, x.a, x.b, r, e, x.want, x.e)
		}
	}
}

// TestOperationsInvalid checks that A3, A4 and A5 refuse an invalid ratio on either side, even where the result would be out of range as well.
func TestOperationsInvalid(t *testing.T) {
	for _, by := range []operation{{"Add", ratio.Add}, {"Sub", ratio.Sub}, {"Mul", ratio.Mul}} {
		for _, bad := range invalid() {
			for _, good := range []api.Rat{rat(0, 1), rat(1, 2), rat(1000000000, 1)} {
				r, e := by.call(bad, good)
				s, f := by.call(good, bad)
				if r != (api.Rat{}) || s != (api.Rat{}) || e != api.ErrArg || f != api.ErrArg {
					t.Errorf("%s of %v and %v: %v, %v; %v, %v", by.name, bad, good, r, e, s, f)
				}
			}
		}
	}
}

// TestCompare checks P1.1 for A6.
func TestCompare(t *testing.T) {
	for _, x := range []struct {
		a, b api.Rat
		want int
	}{
		{rat(1, 2), rat(1, 3), 1},
		{rat(1, 3), rat(1, 2), -1},
		{rat(2, 3), rat(2, 3), 0},
		{rat(0, 1), rat(0, 1), 0},
		{rat(-1, 2), rat(1, 2), -1},
		{rat(-1, 2), rat(-1, 3), -1},
		{rat(-1, 3), rat(-1, 2), 1},
		{rat(0, 1), rat(1, 1000000), -1},
		{rat(0, 1), rat(-1, 1000000), 1},
		{rat(1, 1000000), rat(1, 999999), -1},
		{rat(999999, 1000000), rat(999998, 999999), 1},
		{rat(1000000000, 999999), rat(999999999, 999998), -1},
		{rat(-1000000000, 1), rat(1000000000, 1), -1},
	} {
		n, e := ratio.Compare(x.a, x.b)
		if n != x.want || e != api.OK {
			t.Errorf("Compare(%v, %v) = %d, %v; want %d", x.a, x.b, n, e, x.want)
		}
	}
	for _, bad := range invalid() {
		n, e := ratio.Compare(bad, rat(1, 2))
		m, f := ratio.Compare(rat(1, 2), bad)
		k, g := ratio.Compare(bad, bad)
		if n != 0 || m != 0 || k != 0 || e != api.ErrArg || f != api.ErrArg || g != api.ErrArg {
			t.Errorf("Compare with %v: %d, %v; %d, %v; %d, %v", bad, n, e, m, f, k, g)
		}
	}
}

// TestRound checks P1.1 for A7.
func TestRound(t *testing.T) {
	for _, x := range []struct {
		a              api.Rat
		down, up, even int
	}{
		{rat(0, 1), 0, 0, 0},
		{rat(4, 1), 4, 4, 4},
		{rat(-3, 1), -3, -3, -3},
		{rat(1, 2), 0, 1, 0},
		{rat(-1, 2), -1, 0, 0},
		{rat(3, 2), 1, 2, 2},
		{rat(-3, 2), -2, -1, -2},
		{rat(5, 2), 2, 3, 2},
		{rat(-5, 2), -3, -2, -2},
		{rat(7, 2), 3, 4, 4},
		{rat(-7, 2), -4, -3, -4},
		{rat(4, 3), 1, 2, 1},
		{rat(5, 3), 1, 2, 2},
		{rat(-4, 3), -2, -1, -1},
		{rat(-5, 3), -2, -1, -2},
		{rat(499999, 1000000), 0, 1, 0},
		{rat(500001, 1000000), 0, 1, 1},
		{rat(-500001, 1000000), -1, 0, -1},
		{rat(999999999, 2), 499999999, 500000000, 500000000},
		{rat(1000000000, 1), 1000000000, 1000000000, 1000000000},
		{rat(-1000000000, 1), -1000000000, -1000000000, -1000000000},
	} {
		for way, want := range map[int]int{api.RoundDown: x.down, api.RoundUp: x.up, api.RoundEven: x.even} {
			n, e := ratio.Round(x.a, way)
			if n != want || e != api.OK {
				t.Errorf("Round(%v, %d) = %d, %v; want %d", x.a, way, n, e, want)
			}
		}
	}
	for _, way := range []int{0, 4, -1, math.MinInt, math.MaxInt} {
		if n, e := ratio.Round(rat(1, 2), way); n != 0 || e != api.ErrArg {
			t.Errorf("Round(1/2, %d) = %d, %v", way, n, e)
		}
	}
	for _, bad := range invalid() {
		for way := 1; way <= 3; way++ {
			if n, e := ratio.Round(bad, way); n != 0 || e != api.ErrArg {
				t.Errorf("Round(%v, %d) = %d, %v", bad, way, n, e)
			}
		}
	}
}

// TestPart checks P1.1 for A8.
func TestPart(t *testing.T) {
	for _, x := range []struct {
		n    int
		part api.Rat
		way  int
		want int
		e    api.Errno
	}{
		{1003, rat(1, 2), api.RoundEven, 502, api.OK},
		{1001, rat(1, 2), api.RoundEven, 500, api.OK},
		{10000, rat(1, 3), api.RoundUp, 3334, api.OK},
		{10000, rat(1, 3), api.RoundDown, 3333, api.OK},
		{10000, rat(1, 3), api.RoundEven, 3333, api.OK},
		{-10000, rat(1, 3), api.RoundUp, -3333, api.OK},
		{-10000, rat(1, 3), api.RoundDown, -3334, api.OK},
		{10000, rat(-1, 3), api.RoundDown, -3334, api.OK},
		{-10000, rat(-1, 3), api.RoundUp, 3334, api.OK},
		// The product 2/4 is a half, although it is not reduced.
		{2, rat(1, 4), api.RoundEven, 0, api.OK},
		{6, rat(1, 4), api.RoundEven, 2, api.OK},
		{0, rat(1000000000, 1), api.RoundUp, 0, api.OK},
		{1, rat(1000000000, 1), api.RoundUp, 1000000000, api.OK},
		{1000000000, rat(1, 1), api.RoundUp, 1000000000, api.OK},
		{-1000000000, rat(1, 1), api.RoundDown, -1000000000, api.OK},
		{1000000000, rat(-1, 1), api.RoundDown, -1000000000, api.OK},
		{1000000000, rat(1000000000, 999999), api.RoundDown, 0, api.ErrRange},
		{1000000000, rat(1, 1000000), api.RoundEven, 1000, api.OK},

		{1000000000, rat(1000000000, 1), api.RoundDown, 0, api.ErrRange},
		{-1000000000, rat(1000000000, 1), api.RoundDown, 0, api.ErrRange},
		{2, rat(1000000000, 1), api.RoundDown, 0, api.ErrRange},
		{1000000000, rat(1000001, 1000000), api.RoundDown, 0, api.ErrRange},
		// The rounded product counts: 9 times these parts is 10^9 and 4/5, or 2/7.
		{9, rat(555555556, 5), api.RoundDown, 1000000000, api.OK},
		{9, rat(555555556, 5), api.RoundEven, 0, api.ErrRange},
		{9, rat(555555556, 5), api.RoundUp, 0, api.ErrRange},
		{9, rat(777777778, 7), api.RoundEven, 1000000000, api.OK},
		{9, rat(777777778, 7), api.RoundUp, 0, api.ErrRange},
		{-9, rat(555555556, 5), api.RoundUp, -1000000000, api.OK},
		{-9, rat(555555556, 5), api.RoundDown, 0, api.ErrRange},

		{1000000001, rat(1, 2), api.RoundDown, 0, api.ErrArg},
		{-1000000001, rat(1, 2), api.RoundDown, 0, api.ErrArg},
		{1000000001, rat(1000000000, 1), api.RoundDown, 0, api.ErrArg},
		{math.MaxInt, rat(1, 1), api.RoundDown, 0, api.ErrArg},
		{math.MinInt, rat(0, 1), api.RoundDown, 0, api.ErrArg},
		{1, rat(1, 1), 0, 0, api.ErrArg},
		{1, rat(1, 1), 4, 0, api.ErrArg},
		{1000000000, rat(1000000000, 1), 4, 0, api.ErrArg},
	} {
		n, e := ratio.Part(x.n, x.part, x.way)
		if n != x.want || e != x.e {
			t.Errorf("Part(%d, %v, %d) = %d, %v; want %d, %v", x.n, x.part, x.way, n, e, x.want, x.e)
		}
	}
	for _, bad := range invalid() {
		for _, n := range []int{0, 1, 1000000000} {
			if k, e := ratio.Part(n, bad, api.RoundDown); k != 0 || e != api.ErrArg {
				t.Errorf("Part(%d, %v) = %d, %v", n, bad, k, e)
			}
		}
	}
}
