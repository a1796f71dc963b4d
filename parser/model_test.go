package parser_test

import (
	"slices"
	"strconv"
	"strings"

	"innkeeper/api"
	"innkeeper/lexer"
)

// grammar is that of the chapter, with one way to write a part in each line; a word stands for itself, unless there are ways to write it.
const grammar = `
source
source source one
one rate # level # kind # nights # to # stay # to # arrive # keep # % when expression price expression ;
expression if expression then expression else expression
expression any
any all
any any or all
all none
all all and none
none not none
none compared
compared sum
compared sum < sum
compared sum = sum
sum product
sum sum + product
sum sum - product
product atom
product product * atom
product product / atom
atom #
atom #.#
atom nights
atom persons
atom night
atom weekday
atom min ( expression , expression )
atom max ( expression , expression )
atom ( expression )
`

// way is a way to write a part of the grammar.
type way struct {
	part string
	as   []string
}

// waysOf returns the ways to write each part.
func waysOf() map[string][]way {
	all := map[string][]way{}
	for _, line := range strings.Split(strings.TrimSpace(grammar), "\n") {
		words := strings.Fields(line)
		all[words[0]] = append(all[words[0]], way{words[0], words[1:]})
	}
	return all
}

// item is a way of which so many words have been seen, since there were so many tokens before it.
type item struct {
	way        *way
	seen, from int
}

// wordOf returns what stands for a token in the grammar.
func wordOf(t api.Token) string {
	switch t.Kind {
	case api.TokNumber:
		return "#"
	case api.TokMoney:
		return "#.#"
	}
	return t.Text
}

// follow returns how many tokens can follow one another in a source of a part, and whether it can end after all of them. All ways are tried side by side (as by Earley), so that nothing is decided too soon.
func follow(ways map[string][]way, part string, tokens []api.Token) (int, bool) {
	sets := make([][]item, 1, len(tokens)+1)
	for i := range ways[part] {
		sets[0] = append(sets[0], item{&ways[part][i], 0, 0})
	}
	for at := 0; ; at++ {
		ended := grow(ways, sets, at, part)
		if at == len(tokens) {
			return at, ended
		}
		var next []item
		for _, x := range sets[at] {
			if x.seen < len(x.way.as) && x.way.as[x.seen] == wordOf(tokens[at]) {
				next = append(next, item{x.way, x.seen + 1, x.from})
			}
		}
		if len(next) == 0 {
			return at, false
		}
		sets = append(sets, next)
	}
}

// grow adds all that follows from the items of the last set, and reports whether they have a whole source of a part.
func grow(ways map[string][]way, sets [][]item, at int, part string) bool {
	whole := false
	known := map[item]bool{}
	add := func(x item) {
		if !known[x] {
			known[x] = true
			sets[at] = append(sets[at], x)
		}
	}
	first := sets[at]
	sets[at] = nil
	for _, x := range first {
		add(x)
	}
	for i := 0; i < len(sets[at]); i++ {
		x := sets[at][i]
		if x.seen < len(x.way.as) {
			for k := range ways[x.way.as[x.seen]] {
				add(item{&ways[x.way.as[x.seen]][k], 0, at})
			}
			continue
		}
		whole = whole || x.from == 0 && x.way.part == part
		// A way without words is done where it begins: what waits for it there has been added already, as nothing else waits for a source.
		for _, y := range slices.Clone(sets[x.from]) {
			if y.seen < len(y.way.as) && y.way.as[y.seen] == x.way.part {
				add(item{y.way, y.seen + 1, y.from})
			}
		}
	}
	return whole
}

// treeOf returns the expression of tokens that are one. It looks for the operator that is computed last, and takes it apart there.
func treeOf(l []api.Token) api.Expr {
	if l[0].Text == "if" {
		then, other := choice(l)
		return op(api.OpIf, treeOf(l[1:then]), treeOf(l[then+1:other]), treeOf(l[other+1:]))
	}
	for _, level := range []map[string]int{
		{"or": api.OpOr},
		{"and": api.OpAnd},
		{"not": api.OpNot},
		{"<": api.OpLess, "=": api.OpEqual},
		{"+": api.OpAdd, "-": api.OpSub},
		{"*": api.OpMul, "/": api.OpDiv},
	} {
		at := last(l, level)
		if at < 0 {
			continue
		}
		if l[0].Text == "not" && level["not"] > 0 {
			return op(api.OpNot, treeOf(l[1:]))
		}
		return op(level[l[at].Text], treeOf(l[:at]), treeOf(l[at+1:]))
	}
	return atomOf(l)
}

// atomOf returns the expression of tokens that have no operator outside of brackets.
func atomOf(l []api.Token) api.Expr {
	end := len(l) - 1
	switch l[0].Text {
	case "min", "max":
		comma := 2 + last(l[2:end], map[string]int{",": 1})
		return op(map[string]int{"min": api.OpMin, "max": api.OpMax}[l[0].Text], treeOf(l[2:comma]), treeOf(l[comma+1:end]))
	case "(":
		return treeOf(l[1:end])
	}
	if n := 1 + slices.Index([]string{"nights", "persons", "night", "weekday"}, l[0].Text); n > 0 {
		return variable(n)
	}
	whole, part, money := strings.Cut(l[0].Text, ".")
	n, _ := strconv.Atoi(whole)
	if !money {
		return number(n)
	}
	cents, _ := strconv.Atoi(part)
	return amount(100*n + cents)
}

// last returns where the last token stands, outside of brackets, that is among some, or -1.
func last(l []api.Token, among map[string]int) int {
	at, open := -1, 0
	for i, t := range l {
		switch t.Text {
		case "(":
			open++
		case ")":
			open--
		}
		if open == 0 && among[t.Text] > 0 {
			at = i
		}
	}
	return at
}

// choice returns where the words then and else stand that belong to the first token, which is if.
func choice(l []api.Token) (then, other int) {
	var ifs []int
	for i, t := range l {
		switch t.Text {
		case "if":
			ifs = append(ifs, i)
		case "then":
			if ifs[len(ifs)-1] == 0 {
				then = i
			}
		case "else":
			if ifs[len(ifs)-1] == 0 {
				return then, i
			}
			ifs = ifs[:len(ifs)-1]
		}
	}
	return 0, 0
}

// depth returns how deep an expression is.
func depth(e api.Expr) int {
	most := 0
	for _, k := range e.Kids {
		most = max(most, depth(k))
	}
	return 1 + most
}

// nodes returns the nodes of an expression.
func nodes(e api.Expr) []api.Expr {
	l := []api.Expr{e}
	for _, k := range e.Kids {
		l = append(l, nodes(k)...)
	}
	return l
}

// wellFormed reports what the chapter says that Valid does; the expression has an end.
func wellFormed(e api.Expr) bool {
	all := nodes(e)
	if len(all) > 200 || depth(e) > 30 {
		return false
	}
	for _, x := range all {
		fine := len(x.Kids) == 2 && x.N == 0 && (4 <= x.Op && x.Op <= 9 || 11 <= x.Op && x.Op <= 14)
		fine = fine || len(x.Kids) == 0 && (x.Op == 1 && 0 <= x.N && x.N < 1000000000 || x.Op == 2 && 0 <= x.N && x.N <= 1000000000 || x.Op == 3 && 1 <= x.N && x.N <= 4)
		if !fine && !(len(x.Kids) == 3 && x.N == 0 && x.Op == 10) && !(len(x.Kids) == 1 && x.N == 0 && x.Op == 15) {
			return false
		}
	}
	return true
}

// reading is what Rates returns.
type reading struct {
	rates []api.Rate
	e     api.Errno
	line  int
}

// expect returns what the chapter says that Rates returns.
func expect(ways map[string][]way, s string) reading {
	tokens, e, line := lexer.Tokens(s)
	if e != api.OK {
		return reading{nil, e, line}
	}
	right, ended := follow(ways, "source", tokens)
	var found reading
	first := 0
	for i, t := range tokens[:right] {
		switch t.Text {
		case "rate":
			if first = i; len(found.rates) == 100 {
				return reading{nil, api.ErrLimit, t.Line}
			}
		case ";":
			r := rateOf(tokens[first:i])
			if !wellFormed(r.When) || !wellFormed(r.Price) {
				return reading{nil, api.ErrArg, tokens[first].Line}
			}
			found.rates = append(found.rates, r)
		}
	}
	if right < len(tokens) {
		return reading{nil, api.ErrSyntax, tokens[right].Line}
	}
	if !ended {
		return reading{nil, api.ErrSyntax, tokens[right-1].Line}
	}
	return found
}

// rateOf returns the rate of tokens that are one, but for the last one of them.
func rateOf(l []api.Token) api.Rate {
	var n []int
	for _, at := range []int{1, 3, 5, 7, 9, 11, 13, 15, 17} {
		k, _ := strconv.Atoi(l[at].Text)
		n = append(n, k)
	}
	when := slices.IndexFunc(l, func(t api.Token) bool { return t.Text == "when" })
	price := slices.IndexFunc(l, func(t api.Token) bool { return t.Text == "price" })
	return api.Rate{
		ID: n[0], Level: n[1], Kind: n[2], Season: api.Span{From: n[3], Until: n[4]}, Least: n[5], Most: n[6], Arrive: n[7],
		Keep: hundredth(n[8]),
		When: treeOf(l[when+1 : price]), Price: treeOf(l[price+1:]),
	}
}

// hundredth returns the ratio of a number and 100.
func hundredth(n int) api.Rat {
	for _, d := range []int{1, 2, 4, 5, 10, 20, 25, 50} {
		if n*d%100 == 0 {
			return api.Rat{N: n * d / 100, D: d}
		}
	}
	return api.Rat{N: n, D: 100}
}

// expectExpr returns what the chapter says that Expr returns.
func expectExpr(ways map[string][]way, s string) (api.Expr, api.Errno) {
	tokens, e, _ := lexer.Tokens(s)
	if e != api.OK {
		return api.Expr{}, e
	}
	if right, ended := follow(ways, "expression", tokens); right < len(tokens) || !ended {
		return api.Expr{}, api.ErrSyntax
	}
	if x := treeOf(tokens); wellFormed(x) {
		return x, api.OK
	}
	return api.Expr{}, api.ErrArg
}
