package money_test

import (
	"math"
	"slices"
	"strings"
	"testing"

	"innkeeper/api"
	"innkeeper/money"
)

// exchange returns an exchange with the rate n / d, whether or not it is well-formed.
func exchange(from, to, n, d int) api.Exchange {
	return api.Exchange{From: from, To: to, Rate: api.Rat{N: n, D: d}}
}

// many returns n exchanges, of which no two have the same currencies.
func many(n int) []api.Exchange {
	var l []api.Exchange
	for from := 1; from <= api.MaxCurrency; from++ {
		for to := 1; to <= api.MaxCurrency; to++ {
			if from != to && len(l) < n {
				l = append(l, exchange(from, to, 10*from+to, 7))
			}
		}
	}
	for i := range l {
		if l[i].Rate.N%7 == 0 {
			l[i].Rate = api.Rat{N: l[i].Rate.N / 7, D: 1}
		}
	}
	return l
}

// noLists returns lists that do not consist of exchanges; each but the last two has an exchange from 1 to 2 in front.
func noLists() [][]api.Exchange {
	good := exchange(1, 2, 1, 2)
	var l [][]api.Exchange
	for _, bad := range []api.Exchange{
		{},
		exchange(0, 1, 1, 1), exchange(1, 0, 1, 1), exchange(10, 1, 1, 1), exchange(1, 10, 1, 1), exchange(-1, 1, 1, 1), exchange(1, -1, 1, 1),
		exchange(math.MinInt, 1, 1, 1), exchange(1, math.MaxInt, 1, 1),
		exchange(1, 1, 1, 1), exchange(9, 9, 1, 1), exchange(0, 0, 1, 1),
		exchange(3, 4, 0, 1), exchange(3, 4, -1, 1), exchange(3, 4, -1, 1000000),
		exchange(3, 4, 2, 4), exchange(3, 4, 1, 0), exchange(3, 4, 0, 0), exchange(3, 4, -1, -2), exchange(3, 4, 1, -2), exchange(3, 4, 0, 2),
		exchange(3, 4, 1000000001, 1), exchange(3, 4, 1, 1000001), exchange(3, 4, math.MaxInt, 1), exchange(3, 4, 1, math.MaxInt),
		exchange(3, 4, math.MinInt, 1), exchange(3, 4, 1, math.MinInt),
		exchange(1, 2, 1, 2), exchange(1, 2, 1, 3),
	} {
		l = append(l, []api.Exchange{good, bad}, []api.Exchange{good, exchange(5, 6, 3, 1), bad, exchange(6, 5, 1, 3)})
	}
	return append(l, many(31), many(72))
}

// noAmounts are numbers that are no amounts.
func noAmounts() []int {
	return []int{1000000001, -1000000001, 1 << 31, -1 << 31, 1 << 32, 1<<62 + 1, math.MaxInt, math.MinInt, math.MinInt + 1}
}

// noCurrencies are numbers that are no currencies.
func noCurrencies() []int {
	return []int{0, -1, 10, -9, 1 << 32, math.MaxInt, math.MinInt}
}

// TestValid checks P6.1 for F1: lists at the ends of what they can be, and ones that are none.
func TestValid(t *testing.T) {
	for _, l := range [][]api.Exchange{
		nil, {},
		{exchange(1, 2, 1, 1)},
		{exchange(1, 9, 1, 1000000)},
		{exchange(9, 1, 1000000000, 1)},
		{exchange(9, 8, 1000000000, 999999)},
		{exchange(1, 2, 1, 2), exchange(2, 1, 1, 2)},
		{exchange(1, 2, 1, 2), exchange(1, 3, 1, 2), exchange(3, 2, 1, 2)},
		many(29), many(30),
	} {
		if !money.Valid(l) {
			t.Errorf("Valid(%v) is false", l)
		}
	}
	for _, l := range noLists() {
		if money.Valid(l) {
			t.Errorf("Valid(%v) is true", l)
		}
		last := slices.Clone(l)
		slices.Reverse(last)
		if money.Valid(last) {
			t.Errorf("Valid(%v) is true", last)
		}
	}
}

// TestConvert checks P6.1 for F2, with halves and amounts at the limits.
func TestConvert(t *testing.T) {
	for _, x := range []struct {
		n, d, cents, want int
		e                 api.Errno
	}{
		{1, 100, 250, 2, api.OK},
		{1, 100, 350, 4, api.OK},
		{1, 100, 249, 2, api.OK},
		{1, 100, 251, 3, api.OK},
		{1, 100, 50, 0, api.OK},
		{1, 100, 51, 1, api.OK},
		{1, 100, 150, 2, api.OK},
		{1, 100, -50, 0, api.OK},
		{1, 100, -51, -1, api.OK},
		{1, 100, -150, -2, api.OK},
		{1, 100, -250, -2, api.OK},
		{1, 100, -251, -3, api.OK},
		{1, 2, 6, 3, api.OK},
		{3, 2, 7, 10, api.OK},
		{3, 2, 9, 14, api.OK},
		{2, 3, 1, 1, api.OK},
		{1, 3, 1, 0, api.OK},
		{1, 1, 12345, 12345, api.OK},
		{7, 1, -3, -21, api.OK},
		{1, 1000000, 500000, 0, api.OK},
		{1, 1000000, 500001, 1, api.OK},
		{1, 1000000, 1000000000, 1000, api.OK},
		{1000000000, 999999, 0, 0, api.OK},
		{1000000000, 1, 1, 1000000000, api.OK},
		{1000000000, 1, -1, -1000000000, api.OK},
		{1, 1, 1000000000, 1000000000, api.OK},
		{1, 1, -1000000000, -1000000000, api.OK},
		// What is rounded counts: these are 10^9, and a half, or 2/7, or 4/5.
		{3, 2, 666666667, 1000000000, api.OK},
		{3, 2, -666666667, -1000000000, api.OK},
		{777777778, 7, 9, 1000000000, api.OK},
		{555555556, 5, 9, 0, api.ErrRange},
		{555555556, 5, -9, 0, api.ErrRange},
		{3, 2, 666666668, 0, api.ErrRange},
		{1000001, 1000000, 1000000000, 0, api.ErrRange},
		{1000000000, 1, 2, 0, api.ErrRange},
		{1000000000, 1, -2, 0, api.ErrRange},
		{1000000000, 1, 1000000000, 0, api.ErrRange},
		{1000000000, 1, -1000000000, 0, api.ErrRange},
	} {
		l := []api.Exchange{exchange(2, 1, 5, 1), exchange(1, 2, x.n, x.d), exchange(1, 3, 11, 1)}
		want := api.Money{Cents: x.want, Currency: 2}
		if x.e != api.OK {
			want = api.Money{}
		}
		if m, e := money.Convert(l, api.Money{Cents: x.cents, Currency: 1}, 2); m != want || e != x.e {
			t.Errorf("%d times %d / %d = %v, %v; want %v, %v", x.cents, x.n, x.d, m, e, want, x.e)
		}
	}
}

// TestConvertAmong checks P6.1 for F2: of several exchanges, the one from the one currency to the other is taken, and no other way is.
func TestConvertAmong(t *testing.T) {
	l := []api.Exchange{exchange(1, 2, 2, 1), exchange(2, 3, 3, 1), exchange(3, 2, 5, 1), exchange(9, 1, 7, 1), exchange(1, 8, 1000000000, 1)}
	for from := 1; from <= api.MaxCurrency; from++ {
		for to := 1; to <= api.MaxCurrency; to++ {
			want, f := api.Money{}, api.ErrNone
			if from == to {
				want, f = api.Money{Cents: 1, Currency: to}, api.OK
			}
			for _, x := range l {
				if x.From == from && x.To == to {
					want, f = api.Money{Cents: x.Rate.N, Currency: to}, api.OK
				}
			}
			if m, e := money.Convert(l, api.Money{Cents: 1, Currency: from}, to); m != want || e != f {
				t.Errorf("from %d to %d: %v, %v; want %v, %v", from, to, m, e, want, f)
			}
		}
	}
	all := many(30)
	for _, x := range all {
		want := api.Money{Cents: 7 * x.Rate.N / x.Rate.D, Currency: x.To}
		if m, e := money.Convert(all, api.Money{Cents: 7, Currency: x.From}, x.To); m != want || e != api.OK {
			t.Errorf("7 by %v: %v, %v; want %v", x, m, e, want)
		}
	}
	if m, e := money.Convert(nil, api.Money{Cents: -5, Currency: 9}, 9); m != (api.Money{Cents: -5, Currency: 9}) || e != api.OK {
		t.Errorf("without exchanges: %v, %v", m, e)
	}
	if m, e := money.Convert(nil, api.Money{Cents: 0, Currency: 1}, 2); m != (api.Money{}) || e != api.ErrNone {
		t.Errorf("without exchanges, another currency: %v, %v", m, e)
	}
}

// TestConvertErrors checks P6.1 and P1 for F2: ErrArg goes before ErrNone and ErrRange, and before an amount that stays.
func TestConvertErrors(t *testing.T) {
	good := []api.Exchange{exchange(1, 2, 1000000000, 1)}
	wrong := func(l []api.Exchange, cents, from, to int) {
		t.Helper()
		if m, e := money.Convert(l, api.Money{Cents: cents, Currency: from}, to); m != (api.Money{}) || e != api.ErrArg {
			t.Errorf("Convert(%v, %d of %d, %d) = %v, %v; want ErrArg", l, cents, from, to, m, e)
		}
	}
	for _, l := range noLists() {
		for _, to := range []int{1, 2, 7, 0} {
			wrong(l, 1, 1, to)
			wrong(l, 1000000000, 1, to)
		}
	}
	for _, cents := range noAmounts() {
		for _, to := range []int{1, 2, 7, 0} {
			wrong(good, cents, 1, to)
		}
	}
	for _, c := range noCurrencies() {
		wrong(good, 1, 1, c)
		wrong(good, 1, c, 1)
		wrong(good, 1, c, 2)
		wrong(good, 1, c, c)
		wrong(nil, 0, c, c)
		wrong(good, 1000000000, 1, c)
	}
}

// weights returns n weights w.
func weights(n, w int) []int { return slices.Repeat([]int{w}, n) }

// TestShare checks P6.1 for F3, with negative amounts, weights of 0, and amounts and weights at the limits.
func TestShare(t *testing.T) {
	for _, x := range []struct {
		cents         int
		weights, want []int
	}{
		{100, []int{1, 1, 1}, []int{33, 33, 34}},
		{-100, []int{1, 1, 1}, []int{-34, -33, -33}},
		{101, []int{1, 1, 1}, []int{33, 34, 34}},
		{1, []int{1, 1, 1}, []int{0, 0, 1}},
		{-1, []int{1, 1, 1}, []int{-1, 0, 0}},
		{2, []int{1, 1, 1, 1}, []int{0, 1, 0, 1}},
		{0, []int{1, 2, 3}, []int{0, 0, 0}},
		{7, []int{5}, []int{7}},
		{-7, []int{1000000}, []int{-7}},
		{-7, []int{0, 5, 0}, []int{0, -7, 0}},
		{7, []int{0, 0, 1}, []int{0, 0, 7}},
		{7, []int{1, 0, 0}, []int{7, 0, 0}},
		{10, []int{1, 0, 1, 0, 2}, []int{2, 0, 3, 0, 5}},
		{-10, []int{1, 0, 1, 0, 2}, []int{-3, 0, -2, 0, -5}},
		{60, []int{1, 2, 3}, []int{10, 20, 30}},
		{10000, []int{999999, 1000000}, []int{4999, 5001}},
		{10000, []int{1000000, 999999}, []int{5000, 5000}},
		{1000000000, []int{1000000, 1}, []int{999999000, 1000}},
		{-1000000000, []int{1000000, 1}, []int{-999999001, -999}},
		{1000000000, weights(1000, 1000000), weights(1000, 1000000)},
		{-1000000000, weights(1000, 1000000), weights(1000, -1000000)},
		{-1000, weights(1000, 1000000), weights(1000, -1)},
		{1000000000, weights(1000, 1), weights(1000, 1000000)},
	} {
		if parts, e := money.Share(x.cents, x.weights); !slices.Equal(parts, x.want) || e != api.OK {
			t.Errorf("Share(%d, %v) = %v, %v; want %v", x.cents, x.weights, parts, e, x.want)
		}
	}
}

// TestShareErrors checks P6.1 and P1 for F3.
func TestShareErrors(t *testing.T) {
	wrong := func(cents int, weights []int) {
		t.Helper()
		if parts, e := money.Share(cents, weights); len(parts) > 0 || e != api.ErrArg {
			t.Errorf("Share(%d, %v) = %v, %v; want ErrArg", cents, weights, parts, e)
		}
	}
	for _, cents := range []int{0, 1, -1, 1000000000, -1000000000} {
		for _, l := range [][]int{
			nil, {}, {0}, {0, 0, 0}, weights(1000, 0), weights(1001, 0), weights(1001, 1), append(weights(1000, 0), 1),
			{-1}, {1, -1}, {-1, 2}, {5, -1, 5}, {1000001}, {1, 1000001}, {1000001, 1},
			{math.MaxInt}, {math.MinInt}, {1, math.MinInt, 1}, {math.MaxInt, math.MaxInt, 3}, {math.MinInt, math.MinInt, 1}, {1 << 32, 1},
		} {
			wrong(cents, l)
		}
	}
	for _, cents := range noAmounts() {
		wrong(cents, []int{1})
		wrong(cents, []int{1, 1, 1})
		wrong(cents, nil)
	}
}

// written is an amount with its text.
type written struct {
	cents int
	text  string
}

// someWritten returns amounts with their texts.
func someWritten() []written {
	return []written{
		{0, "0.00"}, {1, "0.01"}, {9, "0.09"}, {10, "0.10"}, {50, "0.50"}, {99, "0.99"}, {100, "1.00"}, {101, "1.01"}, {110, "1.10"},
		{999, "9.99"}, {1000, "10.00"}, {1205, "12.05"}, {10000, "100.00"}, {123456, "1234.56"}, {100000, "1000.00"}, {101010, "1010.10"},
		{999999999, "9999999.99"}, {1000000000, "10000000.00"}, {987654321, "9876543.21"},
		{-1, "-0.01"}, {-10, "-0.10"}, {-50, "-0.50"}, {-99, "-0.99"}, {-100, "-1.00"}, {-101, "-1.01"}, {-1205, "-12.05"},
		{-999999999, "-9999999.99"}, {-1000000000, "-10000000.00"},
	}
}

// TestText checks P6.1 for F4.
func TestText(t *testing.T) {
	for _, x := range someWritten() {
		if s, e := money.Text(x.cents); s != x.text || e != api.OK {
			t.Errorf("Text(%d) = %q, %v; want %q", x.cents, s, e, x.text)
		}
	}
	for _, cents := range noAmounts() {
		if s, e := money.Text(cents); s != "" || e != api.ErrArg {
			t.Errorf("Text(%d) = %q, %v; want ErrArg", cents, s, e)
		}
	}
}

// noTexts returns strings that are no texts of amounts.
func noTexts() []string {
	return []string{
		"", " ", ".", "-", "+", "-.", "0", "1", "100", "-1", "1205", "0.", "1.", "12.", ".0", ".00", ".50", "-.50", "0.0", "1.0", "1.5", "0.000", "1.000", "12.050",
		"-0.00", "00.00", "-00.50", "00.50", "01.00", "-01.00", "001.00", "0001205", "012.05",
		"+1.00", "+0.00", "+12.05", "--1.00", "-+1.00", "1.-5", "1.+5", "-1.-5", "0-.50", "12-.05", "12.05-", "12.-05", "0.-50",
		" 1.00", "1.00 ", "1 .00", "1. 00", "\t1.00", "1.00\n", "1.00\x00", "\x001.00",
		"1,00", "1..00", "1.0.0", ".1.00", "1.00.", "1.00.00", "1_0.00", "10_0.00", "1.0_0", "0x1.00", "0b1.00", "0o1.00", "1e2.00", "1.e2", "1e2", "1.0e", "x.yz", "nan", "Inf", "a1.00",
		"10000000.01", "-10000000.01", "10000001.00", "100000000.00", "-100000000.00", "99999999.99",
		"21474836.48", "42949672.96", "42949673.96", "92233720368547758.07", "92233720368547758.08", "-92233720368547758.08", "184467440737095516.16", "184467440737095517.16",
		"١.٠٠", "1.٠٠", "１.００", "1．00", "−1.00", "1.00\u00a0", "\ufeff1.00", "\xff", "1.0\xff", "\xff1.00", "€1.00", "1.00€",
		strings.Repeat("0", 100000) + ".00", strings.Repeat("9", 100000) + ".00", "0." + strings.Repeat("0", 100000), strings.Repeat(".", 100000), strings.Repeat("-", 100000),
	}
}

// TestParse checks P6.1 for F5.
func TestParse(t *testing.T) {
	for _, x := range someWritten() {
		if n, e := money.Parse(x.text); n != x.cents || e != api.OK {
			t.Errorf("Parse(%q) = %d, %v; want %d", x.text, n, e, x.cents)
		}
	}
	for _, s := range noTexts() {
		if n, e := money.Parse(s); n != 0 || e != api.ErrForm {
			t.Errorf("Parse(%.40q) = %d, %v; want ErrForm", s, n, e)
		}
	}
}
