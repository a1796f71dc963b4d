package rate

import (
	"innkeeper/api"
	"innkeeper/ratio"
)

// computer computes values for some variables. Its methods panic with an error where there is no value.
type computer struct {
	vars      [4]int
	operators map[int]operator
}

// operator computes a value of two others.
type operator func(a, b api.Rat) (api.Rat, api.Errno)

// attempt returns what is computed, or the error with which computing it panics.
func attempt[T any](compute func() T) (found T, e api.Errno) {
	defer func() {
		if x := recover(); x != nil {
			e = x.(api.Errno)
		}
	}()
	return compute(), api.OK
}

// need returns what was computed, or panics with the error of computing it.
func need[T any](found T, e api.Errno) T {
	if e != api.OK {
		panic(e)
	}
	return found
}

// computerOf returns a computer for variables.
func computerOf(vars [4]int) *computer {
	return &computer{vars: vars, operators: operators()}
}

// areVariables reports whether integers are variables, each one by itself.
func areVariables(vars [4]int) bool {
	nights, persons, night, day := vars[api.VarNights-1], vars[api.VarPersons-1], vars[api.VarNight-1], vars[api.VarWeekday-1]
	return 1 <= nights && nights <= api.MaxNights &&
		1 <= persons && persons <= api.MaxPersons &&
		0 <= night && night < api.MaxNights &&
		0 <= day && day <= 6
}

// operators returns the operators that compute with two values, by their Op.
func operators() map[int]operator {
	least := chosen(func(order int) bool { return order < 0 })
	most := chosen(func(order int) bool { return order > 0 })
	return map[int]operator{
		api.OpAdd:   ratio.Add,
		api.OpSub:   ratio.Sub,
		api.OpMul:   ratio.Mul,
		api.OpDiv:   quotient,
		api.OpMin:   least,
		api.OpMax:   most,
		api.OpLess:  compared(func(order int) bool { return order < 0 }),
		api.OpEqual: compared(func(order int) bool { return order == 0 }),
		// What is true is greater than what is false: both are true if the lesser one is, and one of them if the greater one is.
		api.OpAnd: least,
		api.OpOr:  most,
	}
}

// chosen returns the operator that takes the first value if its order to the second one fits, and otherwise the second one.
func chosen(fits func(order int) bool) operator {
	return func(a, b api.Rat) (api.Rat, api.Errno) {
		order, e := ratio.Compare(a, b)
		if fits(order) {
			return a, e
		}
		return b, e
	}
}

// compared returns the operator that is true if the order of the first value to the second one fits.
func compared(fits func(order int) bool) operator {
	return func(a, b api.Rat) (api.Rat, api.Errno) {
		order, e := ratio.Compare(a, b)
		return truth(fits(order)), e
	}
}

// quotient is the operator that divides.
func quotient(a, b api.Rat) (api.Rat, api.Errno) {
	if b.N == 0 {
		return api.Rat{}, api.ErrPrice
	}
	return ratio.Make(a.N*b.D, a.D*b.N)
}

// whole returns an integer as a value.
func whole(n int) api.Rat {
	return api.Rat{N: n, D: 1}
}

// truth returns the value of what is true or false.
func truth(is bool) api.Rat {
	if is {
		return whole(1)
	}
	return whole(0)
}

// value returns the value of an expression, which has a type.
func (c *computer) value(e api.Expr) api.Rat {
	switch e.Op {
	case api.OpNumber, api.OpMoney:
		return whole(e.N)
	case api.OpVar:
		return whole(c.vars[e.N-1])
	case api.OpNot:
		return truth(!c.holds(e.Kids[0]))
	case api.OpIf:
		if c.holds(e.Kids[0]) {
			return c.value(e.Kids[1])
		}
		return c.value(e.Kids[2])
	}
	a := c.value(e.Kids[0])
	b := c.value(e.Kids[1])
	return need(c.operators[e.Op](a, b))
}

// holds reports whether the value of an expression is true.
func (c *computer) holds(e api.Expr) bool {
	return c.value(e) == truth(true)
}
