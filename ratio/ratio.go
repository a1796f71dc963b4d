// Package ratio computes with exact ratios, and rounds them: see shared/doc/01-ratio.md.
package ratio

import "innkeeper/api"

// mostPart bounds the numbers of which Make takes a ratio.
const mostPart = api.MaxRat * api.MaxDenom

// Valid reports whether a ratio is reduced, and within the limits.
func Valid(r api.Rat) bool {
	return fits(r) && reduce(r.N, r.D) == r
}

// Make returns the ratio n / d.
func Make(n, d int) (api.Rat, api.Errno) {
	if d == 0 || !within(n, mostPart) || !within(d, mostPart) {
		return api.Rat{}, api.ErrArg
	}
	return settle(n, d)
}

// Add returns the sum of two ratios.
func Add(a, b api.Rat) (api.Rat, api.Errno) {
	if !Valid(a) || !Valid(b) {
		return api.Rat{}, api.ErrArg
	}
	return settle(a.N*b.D+b.N*a.D, a.D*b.D)
}

// Sub returns the difference of two ratios.
func Sub(a, b api.Rat) (api.Rat, api.Errno) {
	if !Valid(a) || !Valid(b) {
		return api.Rat{}, api.ErrArg
	}
	return settle(a.N*b.D-b.N*a.D, a.D*b.D)
}

// Mul returns the product of two ratios.
func Mul(a, b api.Rat) (api.Rat, api.Errno) {
	if !Valid(a) || !Valid(b) {
		return api.Rat{}, api.ErrArg
	}
	return settle(a.N*b.N, a.D*b.D)
}

// Compare returns -1, 0 or 1, as a is less than b, the same, or greater.
func Compare(a, b api.Rat) (int, api.Errno) {
	if !Valid(a) || !Valid(b) {
		return 0, api.ErrArg
	}
	if a == b {
		return 0, api.OK
	}
	if a.N*b.D < b.N*a.D {
		return -1, api.OK
	}
	return 1, api.OK
}

// Round returns the integer to which a ratio is rounded in a way.
func Round(a api.Rat, way int) (int, api.Errno) {
	w, known := roundings()[way]
	if !known || !Valid(a) {
		return 0, api.ErrArg
	}
	return w.round(a.N, a.D), api.OK
}

// Part returns a part of an integer, rounded in a way.
func Part(n int, part api.Rat, way int) (int, api.Errno) {
	w, known := roundings()[way]
	if !known || !within(n, api.MaxCents) || !Valid(part) {
		return 0, api.ErrArg
	}
	// The product needs no limit of its own: it is at most 10^18, which an int holds.
	cents := w.round(n*part.N, part.D)
	if !within(cents, api.MaxCents) {
		return 0, api.ErrRange
	}
	return cents, api.OK
}

// within reports whether n is from -most to most.
func within(n, most int) bool {
	return -most <= n && n <= most
}

// fits reports whether the numbers of a ratio are within the limits.
func fits(r api.Rat) bool {
	return within(r.N, api.MaxRat) && 1 <= r.D && r.D <= api.MaxDenom
}

// settle returns n / d as a valid ratio, if there is one; d is not 0.
func settle(n, d int) (api.Rat, api.Errno) {
	r := reduce(n, d)
	if !fits(r) {
		return api.Rat{}, api.ErrRange
	}
	return r, api.OK
}

// reduce returns n / d in lowest terms, with a denominator above 0; d is not 0.
func reduce(n, d int) api.Rat {
	var divisor func(a, b int) int
	divisor = func(a, b int) int {
		if b == 0 {
			return a
		}
		return divisor(b, a%b)
	}
	common := divisor(n, d)
	// Remainders can be negative, and so can the divisor: only one with the sign of d makes the denominator positive.
	if (common < 0) != (d < 0) {
		common = -common
	}
	return api.Rat{N: n / common, D: d / common}
}
