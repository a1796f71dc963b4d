package types

import "innkeeper/api"

// rule returns the type of an operator whose Kids have some types. It panics with ErrType if there is none.
type rule func(kids []int) int

// rules returns the rules of all operators, by their Op.
func rules() map[int]rule {
	number := func([]int) int { return api.TypeNumber }
	money := func([]int) int { return api.TypeMoney }
	return map[int]rule{
		api.OpNumber: number,
		api.OpMoney:  money,
		api.OpVar:    number,
		api.OpAdd:    alike,
		api.OpSub:    alike,
		api.OpMul:    product,
		api.OpDiv:    quotient,
		api.OpMin:    alike,
		api.OpMax:    alike,
		api.OpIf:     choice,
		api.OpLess:   comparison,
		api.OpEqual:  comparison,
		api.OpAnd:    truths,
		api.OpOr:     truths,
		api.OpNot:    truths,
	}
}

// attempt returns the type of a well-formed expression, or the error with which looking for it panics.
func attempt(e api.Expr) (found int, wrong api.Errno) {
	defer func() {
		if x := recover(); x != nil {
			wrong = x.(api.Errno)
		}
	}()
	return infer(rules(), e), api.OK
}

// infer returns the type of a well-formed expression.
func infer(known map[int]rule, e api.Expr) int {
	var kids []int
	for _, k := range e.Kids {
		kids = append(kids, infer(known, k))
	}
	return known[e.Op](kids)
}

// need panics unless types are what they have to be.
func need(right bool) {
	if !right {
		panic(api.ErrType)
	}
}

// counted returns a type, which has to be number or money.
func counted(t int) int {
	need(t == api.TypeNumber || t == api.TypeMoney)
	return t
}

// alike is the rule of what takes two numbers, or money twice, and gives such a one again.
func alike(kids []int) int {
	need(kids[0] == kids[1])
	return counted(kids[0])
}

// product is the rule of OpMul.
func product(kids []int) int {
	if kids[0] == api.TypeNumber {
		return counted(kids[1])
	}
	return quotient(kids)
}

// quotient is the rule of OpDiv: only by numbers can be divided.
func quotient(kids []int) int {
	need(kids[1] == api.TypeNumber)
	return counted(kids[0])
}

// comparison is the rule of what compares two numbers, or money.
func comparison(kids []int) int {
	alike(kids)
	return api.TypeTruth
}

// truths is the rule of what joins truths.
func truths(kids []int) int {
	for _, k := range kids {
		need(k == api.TypeTruth)
	}
	return api.TypeTruth
}

// choice is the rule of OpIf.
func choice(kids []int) int {
	need(kids[0] == api.TypeTruth && kids[1] == kids[2])
	return kids[1]
}
