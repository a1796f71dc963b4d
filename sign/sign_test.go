package sign_test

import (
	"math"
	"slices"
	"testing"

	"innkeeper/api"
	"innkeeper/sign"
)

// noExponents are numbers that are no exponents, some of them with the remainder of one.
func noExponents() []int {
	return []int{-1, -5, api.Q, api.Q + 1, api.Q + 5, 2 * api.Q, 5 - api.Q, -api.Q, api.P, 1<<32 + 5, 1<<62 + 1, math.MaxInt, math.MinInt, math.MinInt + 5}
}

// noElements are numbers that are no elements, some of them with the remainder of one.
func noElements() []int {
	return []int{
		0, 2, 6, 8, 10, 13, 14, 18, api.P - 1, api.P - 3, api.P - 4, api.Q + 1,
		api.P, api.P + 1, api.P + 4, 4 - api.P, 1 - api.P, 2*api.P + 4, -1, -2, -4, -api.P, 1<<32 + 4, 1<<62 + 4, math.MaxInt, math.MinInt, math.MinInt + 4,
	}
}

// elements are numbers that are elements.
func elements() []int {
	return []int{1, 3, 4, 5, 7, 9, 11, 12, 15, 16, 17, 19, 20, 21, 25, api.P - 2, api.Q, 1024, 138, 4761, 536870895, 252882231, 1744830408}
}

// TestMember checks P5.1 for E1.
func TestMember(t *testing.T) {
	for _, a := range elements() {
		if !sign.Member(a) {
			t.Errorf("Member(%d) is false", a)
		}
	}
	for _, a := range noElements() {
		if sign.Member(a) {
			t.Errorf("Member(%d) is true", a)
		}
	}
}

// TestExp checks P5.1 for E2: the example, powers at the ends of what an exponent can be, and arguments that are no elements or no exponents.
func TestExp(t *testing.T) {
	for _, x := range []struct{ a, x, want int }{
		{4, 3, 64}, {4, 0, 1}, {4, 1, 4}, {4, 15, 1073741824}, {4, 16, 138}, {4, 31, 4761},
		{4, api.Q - 1, 536870895}, {4, api.Q - 2, 1744830408}, {4, 536870894, api.Q}, {4, 1000000000, 1221458872},
		{1, 0, 1}, {1, 1, 1}, {1, api.Q - 1, 1}, {3, 2, 9}, {api.P - 2, 1, api.P - 2}, {api.P - 2, 2, 4}, {api.P - 2, 0, 1}, {536870895, 2, 1744830408},
	} {
		if p, e := sign.Exp(x.a, x.x); p != x.want || e != api.OK {
			t.Errorf("Exp(%d, %d) = %d, %v; want %d", x.a, x.x, p, e, x.want)
		}
	}
	wrong := func(a, x int) {
		if p, e := sign.Exp(a, x); p != 0 || e != api.ErrArg {
			t.Errorf("Exp(%d, %d) = %d, %v; want ErrArg", a, x, p, e)
		}
	}
	for _, a := range noElements() {
		for _, x := range append(noExponents(), 0, 1, api.Q-1) {
			wrong(a, x)
		}
	}
	for _, a := range elements() {
		for _, x := range noExponents() {
			wrong(a, x)
		}
	}
}

// TestPublic checks P5.1 for E3.
func TestPublic(t *testing.T) {
	for _, x := range []struct{ secret, want int }{
		{1, 4}, {2, 16}, {5, 1024}, {15, 1073741824}, {16, 138}, {31, 4761},
		{536870894, api.Q}, {536870912, 2147482475}, {1000000000, 1221458872}, {api.Q - 2, 1744830408}, {api.Q - 1, 536870895},
	} {
		if p, e := sign.Public(x.secret); p != x.want || e != api.OK {
			t.Errorf("Public(%d) = %d, %v; want %d", x.secret, p, e, x.want)
		}
	}
	for _, x := range append(noExponents(), 0) {
		if p, e := sign.Public(x); p != 0 || e != api.ErrArg {
			t.Errorf("Public(%d) = %d, %v; want ErrArg", x, p, e)
		}
	}
}

// signed is a signature with what it was made of; another program computed it.
type signed struct {
	secret, once int
	message      []int
	public       int
	want         api.Sig
}

// someSigned returns such signatures; some of their challenges and of their exponents are 0, or at the end of what an exponent can be.
func someSigned() []signed {
	return []signed{
		{5, 7, []int{1, 2}, 1024, api.Sig{E: 38522730, S: 192613657}},
		{1, 1, nil, 4, api.Sig{E: 799357301, S: 799357302}},
		{1, 1, []int{}, 4, api.Sig{E: 799357301, S: 799357302}},
		{api.Q - 1, api.Q - 1, nil, 536870895, api.Sig{E: 964166375, S: 109575413}},
		{api.Q - 1, 1, []int{0}, 536870895, api.Sig{E: 8034672, S: 1065707118}},
		{1, api.Q - 1, []int{-1}, 4, api.Sig{E: 962902997, S: 962902996}},
		{123456789, 987654321, []int{1, 2, 3, math.MinInt, math.MaxInt}, 436533508, api.Sig{E: 635569597, S: 581129578}},
		{2, 3, nil, 16, api.Sig{E: 631347079, S: 188952372}},
		{2, 3, []int{0}, 16, api.Sig{E: 569703254, S: 65664722}},
		{2, 3, []int{0, 0}, 16, api.Sig{E: 710199250, S: 346656714}},
		{2, 3, []int{12}, 16, api.Sig{E: 958894678, S: 844047570}},
		{2, 3, []int{1, 2}, 16, api.Sig{E: 589012800, S: 104283814}},
		{5, 7, []int{1}, 1024, api.Sig{E: 877608114, S: 93073421}},
		{5, 7, []int{1820528201}, 1024, api.Sig{E: 0, S: 7}},
		{5, 7, []int{2001341327}, 1024, api.Sig{E: 0, S: 7}},
		{5, 7, []int{1057756016}, 1024, api.Sig{E: 1, S: 12}},
		{5, 7, []int{794474921}, 1024, api.Sig{E: api.Q - 1, S: 2}},
		{5, 7, []int{968214384}, 1024, api.Sig{E: api.Q - 1, S: 2}},
		{5, 7, []int{1488943632}, 1024, api.Sig{E: 644245072, S: 0}},
	}
}

// TestSign checks P5.1 for E4, and P5.3 for the same signatures.
func TestSign(t *testing.T) {
	for _, x := range someSigned() {
		if s, e := sign.Sign(x.secret, x.once, x.message...); s != x.want || e != api.OK {
			t.Errorf("Sign(%d, %d, %v) = %v, %v; want %v", x.secret, x.once, x.message, s, e, x.want)
		}
		if right, e := sign.Verify(x.public, x.want, x.message...); !right || e != api.OK {
			t.Errorf("Verify(%d, %v, %v) = %v, %v; want true", x.public, x.want, x.message, right, e)
		}
	}
	for _, bad := range append(noExponents(), 0) {
		for _, pair := range [][2]int{{bad, 7}, {5, bad}, {bad, bad}, {0, bad}, {bad, api.Q - 1}} {
			if s, e := sign.Sign(pair[0], pair[1], 1, 2); s != (api.Sig{}) || e != api.ErrArg {
				t.Errorf("Sign(%d, %d, 1, 2) = %v, %v; want ErrArg", pair[0], pair[1], s, e)
			}
		}
	}
}

// TestNotRight checks P5.1 for E5 with signatures that are not right, but whose numbers are elements and exponents.
func TestNotRight(t *testing.T) {
	right := api.Sig{E: 38522730, S: 192613657}
	for _, x := range []struct {
		why     string
		public  int
		s       api.Sig
		message []int
	}{
		{"no message", 1024, right, nil},
		{"a shorter message", 1024, right, []int{1}},
		{"a longer message", 1024, right, []int{1, 2, 0}},
		{"turned round", 1024, right, []int{2, 1}},
		{"in one number", 1024, right, []int{12}},
		{"another sign", 1024, right, []int{1, -2}},
		{"the key before the message", 1024, right, []int{1024, 1, 2}},
		{"another key", 4, right, []int{1, 2}},
		{"the key of no secret", 1, right, []int{1, 2}},
		{"the inverse of the key", 1369440212, right, []int{1, 2}},
		{"E and S exchanged", 1024, api.Sig{E: right.S, S: right.E}, []int{1, 2}},
		{"the opposite of E", 1024, api.Sig{E: api.Q - right.E, S: right.S}, []int{1, 2}},
		{"the opposite of S", 1024, api.Sig{E: right.E, S: api.Q - right.S}, []int{1, 2}},
		{"E too great by 1", 1024, api.Sig{E: right.E + 1, S: right.S}, []int{1, 2}},
		{"S too small by 1", 1024, api.Sig{E: right.E, S: right.S - 1}, []int{1, 2}},
		{"S is the number used once", 1024, api.Sig{E: right.E, S: 7}, []int{1, 2}},
		{"only E", 1024, api.Sig{E: right.E}, []int{1, 2}},
		{"only S", 1024, api.Sig{S: right.S}, []int{1, 2}},
		{"zeros", 1024, api.Sig{}, []int{1, 2}},
		{"zeros for nothing", 4, api.Sig{}, nil},
		{"the greatest exponents", 1024, api.Sig{E: api.Q - 1, S: api.Q - 1}, []int{1, 2}},
	} {
		if is, e := sign.Verify(x.public, x.s, x.message...); is || e != api.OK {
			t.Errorf("Verify(%d, %v, %v) = %v, %v; want false (%s)", x.public, x.s, x.message, is, e, x.why)
		}
	}
}

// TestVerifyWrong checks P5.1 for E5 with numbers that are no elements or no exponents, though their remainders make a right signature.
func TestVerifyWrong(t *testing.T) {
	wrong := func(public int, s api.Sig) {
		if right, e := sign.Verify(public, s, 1, 2); right || e != api.ErrArg {
			t.Errorf("Verify(%d, %v, 1, 2) = %v, %v; want ErrArg", public, s, right, e)
		}
	}
	right := api.Sig{E: 38522730, S: 192613657}
	for _, public := range append(noElements(), 1024+api.P, 1024-api.P, 1024+1<<32, -1024) {
		wrong(public, right)
		wrong(public, api.Sig{})
		wrong(public, api.Sig{E: -1, S: api.Q})
	}
	for _, bad := range noExponents() {
		wrong(1024, api.Sig{E: bad, S: right.S})
		wrong(1024, api.Sig{E: right.E, S: bad})
		wrong(1024, api.Sig{E: bad, S: bad})
	}
	for _, off := range []int{api.Q, -api.Q, 2 * api.Q, 1 << 32, math.MinInt} {
		wrong(1024, api.Sig{E: right.E + off, S: right.S})
		wrong(1024, api.Sig{E: right.E, S: right.S + off})
	}
}

// TestNobody checks P5.1 for E5 with the element 1, which is the key of no secret: the challenge of any power of G is right for it.
func TestNobody(t *testing.T) {
	for _, x := range []struct {
		s       api.Sig
		message []int
	}{
		{api.Sig{E: challengeOf(1, 1), S: 0}, nil},
		{api.Sig{E: challengeOf(4, 1, 1, 2), S: 1}, []int{1, 2}},
		{api.Sig{E: challengeOf(536870895, 1, -3), S: api.Q - 1}, []int{-3}},
	} {
		if right, e := sign.Verify(1, x.s, x.message...); !right || e != api.OK {
			t.Errorf("Verify(1, %v, %v) = %v, %v; want true", x.s, x.message, right, e)
		}
		x.s.S++
		x.s.S %= api.Q
		if right, e := sign.Verify(1, x.s, x.message...); right || e != api.OK {
			t.Errorf("Verify(1, %v, %v) = %v, %v; want false", x.s, x.message, right, e)
		}
	}
}

// TestTotal checks P1: every function ends for all numbers and for long messages, and leaves the messages as they are, with what is behind them.
func TestTotal(t *testing.T) {
	numbers := slices.Concat(noExponents(), noElements(), elements(), []int{1<<31 - 1, 1 << 31, 1 << 32, 1<<63 - 25, math.MaxInt32, math.MinInt32})
	for _, a := range numbers {
		for _, b := range numbers {
			if p, e := sign.Exp(a, b); (e == api.OK) != (p != 0) || e != api.OK && e != api.ErrArg {
				t.Errorf("Exp(%d, %d) = %d, %v", a, b, p, e)
			}
			if s, e := sign.Sign(a, b, a, b); e != api.OK && (e != api.ErrArg || s != (api.Sig{})) {
				t.Errorf("Sign(%d, %d) = %v, %v", a, b, s, e)
			}
			for _, s := range []api.Sig{{E: a, S: b}, {E: b, S: a}, {E: b}, {S: b}} {
				if right, e := sign.Verify(a, s, b); e != api.OK && (e != api.ErrArg || right) {
					t.Errorf("Verify(%d, %v, %d) = %v, %v", a, s, b, right, e)
				}
			}
		}
	}
	for _, n := range []int{0, 1, 7, 1000, 300000} {
		long := make([]int, n, n+8)
		for i := range long {
			long[i] = math.MinInt + i
		}
		all := long[:cap(long)]
		before := slices.Clone(all)
		s, e := sign.Sign(5, 7, long...)
		right, f := sign.Verify(1024, s, long...)
		if e != api.OK || f != api.OK || !right {
			t.Errorf("a message of %d integers is signed as %v, %v, which is %v, %v", n, s, e, right, f)
		}
		if !slices.Equal(all, before) {
			t.Errorf("a message of %d integers is changed", n)
		}
	}
}

// TestSame checks P1 and the Rules: what a call returned depends on its arguments alone, not on earlier calls.
func TestSame(t *testing.T) {
	first, _ := sign.Sign(5, 7, 1, 2)
	sign.Sign(5, 8, 1, 2)
	sign.Sign(0, 0)
	sign.Verify(4, api.Sig{E: 1, S: 2}, 3)
	if again, e := sign.Sign(5, 7, 1, 2); again != first || e != api.OK {
		t.Errorf("Sign(5, 7, 1, 2) = %v first, and %v, %v then", first, again, e)
	}
}
