package money_test

import (
	"math"
	"math/big"
	"math/rand"
	"regexp"
	"slices"
	"strconv"
	"testing"

	"innkeeper/api"
	"innkeeper/money"
	"innkeeper/ratio"
)

// someAmount returns an amount; many are small, and many are at the limits.
func someAmount(r *rand.Rand) int {
	sign := 1 - 2*r.Intn(2)
	switch r.Intn(4) {
	case 0:
		return sign * r.Intn(30)
	case 1:
		return sign * (api.MaxCents - r.Intn(30))
	case 2:
		return sign * 50 * r.Intn(2000)
	}
	return sign * r.Intn(api.MaxCents+1)
}

// someRate returns a rate: often one by which small amounts come to halves, or large ones to what is no amount.
func someRate(r *rand.Rand) api.Rat {
	for {
		n, d := 1+r.Intn(40), 2*(1+r.Intn(50))
		switch r.Intn(4) {
		case 0:
			n, d = 1+r.Intn(api.MaxRat), 1+r.Intn(api.MaxDenom)
		case 1:
			n, d = api.MaxDenom-r.Intn(5), api.MaxDenom-r.Intn(5)
		case 2:
			n, d = 1+r.Intn(1000), api.MaxDenom-r.Intn(5)
		}
		if x, e := ratio.Make(n, d); e == api.OK {
			return x
		}
	}
}

// changed returns an amount of currency 1 as one of currency 2, by a rate.
func changed(t *testing.T, cents int, rate api.Rat) (int, api.Errno) {
	t.Helper()
	m, e := money.Convert([]api.Exchange{{From: 1, To: 2, Rate: rate}}, api.Money{Cents: cents, Currency: 1}, 2)
	if e != api.OK && (m != api.Money{} || e != api.ErrRange) || e == api.OK && m.Currency != 2 {
		t.Fatalf("%d by %v: %v, %v", cents, rate, m, e)
	}
	return m.Cents, e
}

// TestNearest checks P6.2, that of two equally near amounts the even one is returned, and that there is ErrRange only where that one is no amount.
func TestNearest(t *testing.T) {
	r := rand.New(rand.NewSource(62))
	halves, errors := 0, 0
	for range 100000 {
		cents, rate := someAmount(r), someRate(r)
		got, e := changed(t, cents, rate)
		// These products are at most 10^18, and their difference is small, if the result is right.
		twice := 2 * (got*rate.D - cents*rate.N)
		switch {
		case e == api.ErrRange:
			errors++
			// The limit is even, so that half a cent beyond it is still rounded to it.
			if 2*(max(cents, -cents)*rate.N-api.MaxCents*rate.D) <= rate.D {
				t.Fatalf("%d by %v: ErrRange", cents, rate)
			}
		case twice < -rate.D || twice > rate.D || got < -api.MaxCents || got > api.MaxCents:
			t.Fatalf("%d by %v is %d", cents, rate, got)
		case twice == -rate.D || twice == rate.D:
			halves++
			if got%2 != 0 {
				t.Fatalf("%d by %v is %d, which is odd", cents, rate, got)
			}
		}
	}
	if halves < 1000 || errors < 1000 {
		t.Errorf("%d results at a half, and %d errors; want many of both", halves, errors)
	}
}

// TestSigns checks P6.3: opposite amounts.
func TestSigns(t *testing.T) {
	r := rand.New(rand.NewSource(63))
	for range 50000 {
		cents, rate := someAmount(r), someRate(r)
		a, e := changed(t, cents, rate)
		b, f := changed(t, -cents, rate)
		if a != -b || e != f {
			t.Fatalf("%d and %d by %v: %d, %v and %d, %v", cents, -cents, rate, a, e, b, f)
		}
	}
}

// TestOrder checks P6.3: amounts near each other, and ones anywhere.
func TestOrder(t *testing.T) {
	r := rand.New(rand.NewSource(631))
	for range 50000 {
		cents, rate := someAmount(r), someRate(r)
		other := someAmount(r)
		if r.Intn(2) == 0 {
			other = min(cents+r.Intn(3), api.MaxCents)
		}
		a, e := changed(t, min(cents, other), rate)
		b, f := changed(t, max(cents, other), rate)
		if e == api.OK && f == api.OK && a > b {
			t.Fatalf("%d and %d by %v are %d and %d", min(cents, other), max(cents, other), rate, a, b)
		}
	}
}

// TestSameCurrency checks P6.3: an amount stays, whatever exchanges there are from and to its currency.
func TestSameCurrency(t *testing.T) {
	r := rand.New(rand.NewSource(632))
	for i := range 5000 {
		l := many(i % 31)
		for k := range l {
			l[k].Rate = someRate(r)
		}
		m := api.Money{Cents: someAmount(r), Currency: 1 + r.Intn(api.MaxCurrency)}
		if same, e := money.Convert(l, m, m.Currency); same != m || e != api.OK {
			t.Fatalf("%v in its own currency is %v, %v", m, same, e)
		}
	}
}

// someWeights returns weights, of which many are 0, small, equal or at the limit.
func someWeights(r *rand.Rand) []int {
	n := 1 + r.Intn(12)
	if r.Intn(20) == 0 {
		n = 1000 - r.Intn(30)
	}
	l := make([]int, n)
	most := []int{2, 5, 50, 1000000}[r.Intn(4)]
	for i := range l {
		l[i] = max(0, r.Intn(most+2)-1)
		if r.Intn(9) == 0 {
			l[i] = most
		}
	}
	if slices.Max(l) == 0 {
		l[r.Intn(n)] = 1
	}
	return l
}

// sumOf returns the sum of some integers.
func sumOf(l []int) int {
	n := 0
	for _, x := range l {
		n += x
	}
	return n
}

// partsOf returns the parts of an amount, which must exist.
func partsOf(t *testing.T, cents int, weights []int) []int {
	t.Helper()
	parts, e := money.Share(cents, weights)
	if len(parts) != len(weights) || e != api.OK {
		t.Fatalf("Share(%d, %v) = %v, %v", cents, weights, parts, e)
	}
	return parts
}

// exactly returns the parts of an amount as the chapter says them, computed with numbers of any size.
func exactly(cents int, weights []int) []int {
	total := big.NewInt(int64(sumOf(weights)))
	until := func(k int) int {
		x := big.NewInt(int64(cents))
		x.Mul(x, big.NewInt(int64(sumOf(weights[:k]))))
		// Div is Euclidean, which is the floor, since the sum of the weights is above 0.
		return int(x.Div(x, total).Int64())
	}
	parts := make([]int, len(weights))
	before := 0
	for k := range parts {
		next := until(k + 1)
		parts[k] = next - before
		before = next
	}
	return parts
}

// TestParts checks P6.1 for F3, and P6.4.
func TestParts(t *testing.T) {
	r := rand.New(rand.NewSource(64))
	for range 20000 {
		cents, weights := someAmount(r), someWeights(r)
		parts, total := partsOf(t, cents, weights), sumOf(weights)
		if want := exactly(cents, weights); !slices.Equal(parts, want) {
			t.Fatalf("Share(%d, %v) = %v; want %v", cents, weights, parts, want)
		}
		if sumOf(parts) != cents {
			t.Fatalf("Share(%d, %v) = %v, whose sum is %d", cents, weights, parts, sumOf(parts))
		}
		for k, w := range weights {
			apart := parts[k]*total - cents*w
			if apart <= -total || apart >= total {
				t.Fatalf("Share(%d, %v) = %v: part %d is a cent or more from its share", cents, weights, parts, k)
			}
			if w == 0 && parts[k] != 0 {
				t.Fatalf("Share(%d, %v) = %v: part %d has no weight", cents, weights, parts, k)
			}
		}
	}
}

// TestEqualWeights checks the first half of P6.5.
func TestEqualWeights(t *testing.T) {
	r := rand.New(rand.NewSource(65))
	for range 20000 {
		cents, weights := someAmount(r), someWeights(r)
		least, most := map[int]int{}, map[int]int{}
		for k, part := range partsOf(t, cents, weights) {
			w := weights[k]
			if _, there := least[w]; !there {
				least[w], most[w] = part, part
			}
			least[w], most[w] = min(least[w], part), max(most[w], part)
			if most[w]-least[w] > 1 {
				t.Fatalf("Share(%d, %v): parts with the weight %d are from %d to %d", cents, weights, w, least[w], most[w])
			}
		}
	}
}

// TestProportion checks the second half of P6.5.
func TestProportion(t *testing.T) {
	r := rand.New(rand.NewSource(651))
	for range 20000 {
		weights := someWeights(r)
		total := sumOf(weights)
		times := someAmount(r) / total
		for k, part := range partsOf(t, times*total, weights) {
			if part != times*weights[k] {
				t.Fatalf("Share(%d, %v): part %d is %d; want %d", times*total, weights, k, part, times*weights[k])
			}
		}
	}
}

// shape is what texts of amounts look like, but for the one of 0, which has no sign.
var shape = regexp.MustCompile(`^-?(0|[1-9][0-9]*)\.[0-9][0-9]$`)

// amountOf returns the amount that has a text, as the chapter says it, and whether there is one.
func amountOf(s string) (int, bool) {
	if !shape.MatchString(s) || s == "-0.00" {
		return 0, false
	}
	x, err := strconv.ParseFloat(s, 64)
	if err != nil || math.Abs(x) > api.MaxCents/100 {
		return 0, false
	}
	return int(math.Round(100 * x)), true
}

// wantParse checks what a string is read as.
func wantParse(t *testing.T, s string) bool {
	t.Helper()
	want, there := amountOf(s)
	n, e := money.Parse(s)
	if n != want || (e == api.OK) != there || !there && e != api.ErrForm {
		t.Fatalf("Parse(%q) = %d, %v; want %d, %v", s, n, e, want, there)
	}
	if there {
		if text, e := money.Text(n); text != s || e != api.OK {
			t.Fatalf("Text(%d) = %q, %v; want %q", n, text, e, s)
		}
	}
	return there
}

// TestReadBack checks P6.6: amounts are read from their texts, which differ.
func TestReadBack(t *testing.T) {
	r := rand.New(rand.NewSource(66))
	seen := map[string]int{}
	see := func(cents int) {
		s, e := money.Text(cents)
		if e != api.OK || !wantParse(t, s) {
			t.Fatalf("Text(%d) = %q, %v", cents, s, e)
		}
		if n, f := money.Parse(s); n != cents || f != api.OK {
			t.Fatalf("Parse(%q) = %d, %v; want %d", s, n, f, cents)
		}
		if other, there := seen[s]; there && other != cents {
			t.Fatalf("%d and %d both have the text %q", cents, other, s)
		}
		seen[s] = cents
	}
	for n := range 30000 {
		for _, cents := range []int{n, -n, api.MaxCents - n, n - api.MaxCents, someAmount(r), someAmount(r)} {
			see(cents)
		}
	}
	for power := 1; power <= api.MaxCents; power *= 10 {
		for near := -2; near <= 2; near++ {
			if cents := power + near; cents <= api.MaxCents {
				see(cents)
				see(-cents)
			}
		}
	}
}

// TestOnlyTexts checks P6.6: of all short strings of some bytes, only texts are read.
func TestOnlyTexts(t *testing.T) {
	read := 0
	all := []string{""}
	for range 7 {
		var longer []string
		for _, s := range all {
			if wantParse(t, s) {
				read++
			}
			for _, x := range "-.019+_" {
				longer = append(longer, s+string(x))
			}
		}
		all = longer
	}
	// With the three digits 0, 1 and 9 there are 3, 2 * 3 and 2 * 3 * 3 hundreds of up to three digits; with a sign, up to two, without 0.
	if want := (3+6+18)*9 + (3+6)*9 - 1; read != want {
		t.Errorf("%d texts are read; want %d", read, want)
	}
}

// TestNearlyTexts checks P6.6: texts with a byte more, one less or another one are read only if they are texts.
func TestNearlyTexts(t *testing.T) {
	r := rand.New(rand.NewSource(661))
	read, not := 0, 0
	for range 100000 {
		text, _ := money.Text(someAmount(r))
		b := []byte(text)
		at := r.Intn(len(b))
		x := "0123456789.-+_ eE,x\x00\xff"[r.Intn(21)]
		switch r.Intn(4) {
		case 0:
			b[at] = x
		case 1:
			b = slices.Insert(b, at, x)
		case 2:
			b = slices.Delete(b, at, at+1)
		case 3:
			other := r.Intn(len(b))
			b[at], b[other] = b[other], b[at]
		}
		if wantParse(t, string(b)) {
			read++
		} else {
			not++
		}
	}
	if read < 10000 || not < 10000 {
		t.Errorf("%d strings are texts, and %d are not; want many of both", read, not)
	}
}

// extremes returns integers at which arithmetic could go wrong.
func extremes() []int {
	return []int{
		math.MinInt, math.MinInt + 1, math.MinInt32, -1000000001, -1000000000, -1000001, -2, -1, 0, 1, 2, 9, 10, 1000000, 1000001,
		999999999, 1000000000, 1000000001, 1 << 32, 1 << 62, math.MaxInt - 1, math.MaxInt,
	}
}

// TestAllArguments checks P1: no call panics, errors are those of the chapter and come with zero values, and there are none where arguments are right.
func TestAllArguments(t *testing.T) {
	for _, a := range extremes() {
		fine := -1000000000 <= a && a <= 1000000000
		if s, e := money.Text(a); (e == api.OK) != fine || !fine && (s != "" || e != api.ErrArg) {
			t.Errorf("Text(%d) = %q, %v", a, s, e)
		}
		money.Parse(strconv.Itoa(a))
		for _, b := range extremes() {
			for _, c := range extremes() {
				weights := []int{b, c}
				good := fine && min(b, c) >= 0 && max(b, c) <= 1000000 && max(b, c) > 0
				parts, e := money.Share(a, weights)
				if (e == api.OK) != good || !good && (len(parts) > 0 || e != api.ErrArg) || good && sumOf(parts) != a {
					t.Errorf("Share(%d, %v) = %v, %v", a, weights, parts, e)
				}
				l := []api.Exchange{exchange(1, 2, 3, 1), exchange(2, 1, b, c)}
				valid := ratio.Valid(l[1].Rate) && b > 0
				if money.Valid(l) != valid {
					t.Errorf("Valid(%v) is %v", l, !valid)
				}
				m, e := money.Convert(l, api.Money{Cents: a, Currency: 2}, 1)
				if (e != api.ErrArg) != (valid && fine) || e != api.OK && m != (api.Money{}) || e != api.OK && e != api.ErrArg && e != api.ErrRange {
					t.Errorf("Convert(%v, %d) = %v, %v", l, a, m, e)
				}
				m, e = money.Convert([]api.Exchange{exchange(1, 2, 3, 1)}, api.Money{Cents: a, Currency: b}, c)
				known := fine && 1 <= min(b, c) && max(b, c) <= 9
				if (e != api.ErrArg) != known || e != api.OK && m != (api.Money{}) {
					t.Errorf("Convert(%d of %d, %d) = %v, %v", a, b, c, m, e)
				}
			}
		}
	}
}

// TestLongLists checks P1: lists and strings of any size are answered, if only with an error.
func TestLongLists(t *testing.T) {
	for _, n := range []int{31, 1001, 1000000} {
		if money.Valid(make([]api.Exchange, n)) || money.Valid(slices.Repeat([]api.Exchange{exchange(1, 2, 1, 1)}, n)) {
			t.Errorf("Valid of %d exchanges is true", n)
		}
		if m, e := money.Convert(slices.Repeat([]api.Exchange{exchange(1, 2, 1, 1)}, n), api.Money{Cents: 1, Currency: 1}, 2); m != (api.Money{}) || e != api.ErrArg {
			t.Errorf("Convert by %d exchanges = %v, %v", n, m, e)
		}
	}
	for _, n := range []int{1001, 2000, 1000000} {
		if parts, e := money.Share(5, weights(n, 1)); len(parts) > 0 || e != api.ErrArg {
			t.Errorf("Share by %d weights = %d parts, %v", n, len(parts), e)
		}
	}
}

// TestArgumentsStay checks the document's Rules: calls change no argument, share no memory with one or with another result, and are repeatable.
func TestArgumentsStay(t *testing.T) {
	l, w := many(30), []int{3, 0, 1000000, 7, 3}
	oldList, oldWeights := slices.Clone(l), slices.Clone(w)
	first := partsOf(t, 12345, w)
	kept := slices.Clone(first)
	clear(first[:cap(first)])
	if again := partsOf(t, 12345, w); !slices.Equal(again, kept) || !slices.Equal(w, oldWeights) {
		t.Errorf("the parts are %v, then %v, by %v", kept, again, w)
	}
	money.Valid(l)
	a, e := money.Convert(l, api.Money{Cents: 12345, Currency: 1}, 2)
	l[0].Rate = api.Rat{N: 1, D: 1}
	money.Convert(l, api.Money{Cents: 12345, Currency: 1}, 2)
	l[0] = oldList[0]
	if b, f := money.Convert(l, api.Money{Cents: 12345, Currency: 1}, 2); a != b || e != f || !slices.Equal(l, oldList) {
		t.Errorf("converted to %v, %v, then %v, %v", a, e, b, f)
	}
}
