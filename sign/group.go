package sign

import (
	"math/bits"

	"innkeeper/api"
)

// isExponent reports whether a number is an exponent.
func isExponent(x int) bool {
	return 0 <= x && x < api.Q
}

// isSecret reports whether a number is a secret.
func isSecret(x int) bool {
	return 1 <= x && x < api.Q
}

// product returns the product of two numbers modulo P; as both are below 2^31, an int holds it before it is reduced.
func product(a, b int) int {
	return a * b % api.P
}

// power returns a to the power of x, modulo P.
func power(a, x int) int {
	p := 1
	multiply := func(by int) { p = product(p, by) }
	for bit := bits.Len(uint(x)) - 1; bit >= 0; bit-- {
		multiply(p)
		if x>>bit%2 == 1 {
			multiply(a)
		}
	}
	return p
}
