package ratio

import "innkeeper/api"

// rounding is a way to round n / d to an integer; d is above 0.
type rounding struct {
	round func(n, d int) int
}

// roundings returns the ways to round, by their numbers.
func roundings() map[int]rounding {
	return map[int]rounding{
		api.RoundDown: {round: down},
		api.RoundUp:   {round: up},
		api.RoundEven: {round: even},
	}
}

// down returns the greatest integer that is not greater than n / d.
func down(n, d int) int {
	q := n / d
	// Go's division goes towards 0, which is up for a negative number.
	if n%d < 0 {
		q--
	}
	return q
}

// up returns the least integer that is not less than n / d.
func up(n, d int) int {
	return -down(-n, d)
}

// even returns the integer nearest to n / d, and the even one of two that are equally near.
func even(n, d int) int {
	low := down(n, d)
	// Twice the distance to low is compared with d, so that no half is lost.
	twice := 2 * (n - low*d)
	if twice < d || twice == d && low%2 == 0 {
		return low
	}
	return low + 1
}
