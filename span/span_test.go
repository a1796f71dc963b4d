package span_test

import (
	"math"
	"slices"
	"testing"

	"innkeeper/api"
	"innkeeper/span"
)

// set returns a list of spans from pairs of From and Until.
func set(ends ...int) []api.Span {
	var l []api.Span
	for pair := range slices.Chunk(ends, 2) {
		l = append(l, api.Span{From: pair[0], Until: pair[1]})
	}
	return l
}

// rungs returns n spans of a number each, with a gap of a number between them, the first at from.
func rungs(n, from int) []api.Span {
	var l []api.Span
	for i := range n {
		l = append(l, api.Span{From: from + 2*i, Until: from + 2*i + 1})
	}
	return l
}

// invalid returns lists that miss one condition of a set each.
func invalid() [][]api.Span {
	return [][]api.Span{
		set(-1, 4),
		set(4, 4),
		set(0, 0),
		set(5, 4),
		set(0, 1000000001),
		set(1000000000, 1000000001),
		set(1000000000, 1000000000),
		set(math.MinInt, math.MaxInt),
		set(math.MaxInt, math.MinInt),
		set(math.MinInt, 1),
		set(0, math.MaxInt),
		set(1, 4, 4, 6),
		set(1, 4, 3, 6),
		set(1, 9, 3, 6),
		set(3, 6, 1, 2),
		set(3, 6, 3, 6),
		set(1, 2, 4, 4),
		set(1, 2, 4, 3),
		set(1, 2, 4, 6, 6, 8),
		set(-3, -1, 1, 2),
		rungs(1001, 0),
	}
}

// TestValid checks P2.1 for B1.
func TestValid(t *testing.T) {
	for _, l := range [][]api.Span{
		nil,
		{},
		set(0, 1),
		set(0, 1000000000),
		set(999999999, 1000000000),
		set(1, 4, 5, 6),
		set(0, 1, 2, 3, 4, 5),
		rungs(1000, 0),
		rungs(1000, 1000000000-1999),
	} {
		if !span.Valid(l) {
			t.Errorf("%v is no set", l)
		}
	}
	for _, l := range invalid() {
		if span.Valid(l) {
			t.Errorf("%v is a set", l)
		}
	}
}

// TestCombine checks P2.1 for B2 to B4, and the examples of the chapter.
func TestCombine(t *testing.T) {
	for _, x := range []struct{ a, b, union, meet, less []api.Span }{
		{nil, nil, nil, nil, nil},
		{set(1, 4), nil, set(1, 4), nil, set(1, 4)},
		{nil, set(1, 4), set(1, 4), nil, nil},
		{set(1, 4), set(4, 6), set(1, 6), nil, set(1, 4)},
		{set(4, 6), set(1, 4), set(1, 6), nil, set(4, 6)},
		{set(1, 6), set(3, 9), set(1, 9), set(3, 6), set(1, 3)},
		{set(3, 9), set(1, 6), set(1, 9), set(3, 6), set(6, 9)},
		{set(1, 4), set(5, 6), set(1, 4, 5, 6), nil, set(1, 4)},
		{set(1, 4), set(1, 4), set(1, 4), set(1, 4), nil},
		{set(1, 9), set(3, 5), set(1, 9), set(3, 5), set(1, 3, 5, 9)},
		{set(3, 5), set(1, 9), set(1, 9), set(3, 5), nil},
		{set(1, 9), set(1, 5), set(1, 9), set(1, 5), set(5, 9)},
		{set(1, 9), set(5, 9), set(1, 9), set(5, 9), set(1, 5)},
		{set(0, 2, 4, 6, 8, 10), set(2, 4, 6, 8), set(0, 10), nil, set(0, 2, 4, 6, 8, 10)},
		{set(0, 2, 4, 6, 8, 10), set(1, 9), set(0, 10), set(1, 2, 4, 6, 8, 9), set(0, 1, 9, 10)},
		{set(0, 3, 5, 9), set(2, 4, 5, 6, 8, 12), set(0, 4, 5, 12), set(2, 3, 5, 6, 8, 9), set(0, 2, 6, 8)},
		{set(0, 1000000000), set(0, 1, 999999999, 1000000000), set(0, 1000000000), set(0, 1, 999999999, 1000000000), set(1, 999999999)},
	} {
		for _, c := range combinations() {
			want := map[string][]api.Span{"Union": x.union, "Meet": x.meet, "Less": x.less}[c.name]
			if l, e := c.call(x.a, x.b); !slices.Equal(l, want) || e != api.OK {
				t.Errorf("%s(%v, %v) = %v, %v; want %v", c.name, x.a, x.b, l, e, want)
			}
		}
	}
}

// combination is one of the functions that take two sets.
type combination struct {
	name string
	call func(a, b []api.Span) ([]api.Span, api.Errno)
	has  func(inA, inB bool) bool
}

func combinations() []combination {
	return []combination{
		{"Union", span.Union, func(inA, inB bool) bool { return inA || inB }},
		{"Meet", span.Meet, func(inA, inB bool) bool { return inA && inB }},
		{"Less", span.Less, func(inA, inB bool) bool { return inA && !inB }},
	}
}

// TestInvalid checks P2.1 and P1: a list that is no set is ErrArg in any place, even where the result would have too many spans.
func TestInvalid(t *testing.T) {
	for _, bad := range invalid() {
		for _, good := range [][]api.Span{nil, set(1, 4), rungs(1000, 1)} {
			for _, c := range combinations() {
				if l, e := c.call(bad, good); len(l) > 0 || e != api.ErrArg {
					t.Errorf("%s(%v, ..) = %v, %v", c.name, bad, l, e)
				}
				if l, e := c.call(good, bad); len(l) > 0 || e != api.ErrArg {
					t.Errorf("%s(.., %v) = %v, %v", c.name, bad, l, e)
				}
			}
		}
		if n, e := span.Count(bad); n != 0 || e != api.ErrArg {
			t.Errorf("Count(%v) = %d, %v", bad, n, e)
		}
	}
}

// TestLimit checks P2.1 for ErrLimit: 1000 spans are a result, 1001 are not.
func TestLimit(t *testing.T) {
	whole := set(0, 5000)
	for i, x := range []struct {
		name string
		a, b []api.Span
		n    int
		e    api.Errno
	}{
		{"Union", rungs(500, 0), rungs(500, 1000), 1000, api.OK},
		{"Union", rungs(501, 0), rungs(500, 1002), 0, api.ErrLimit},
		{"Union", rungs(1000, 0), set(5000, 5001), 0, api.ErrLimit},
		{"Union", rungs(1000, 0), set(1999, 2000), 1000, api.OK},
		{"Union", rungs(1000, 0), rungs(1000, 1), 1, api.OK},
		{"Union", rungs(1000, 0), rungs(1000, 2000), 0, api.ErrLimit},
		{"Meet", rungs(1000, 0), whole, 1000, api.OK},
		{"Meet", rungs(1000, 0), rungs(1000, 0), 1000, api.OK},
		{"Meet", wide(1000, 0), wide(1000, 2), 0, api.ErrLimit},
		{"Meet", wide(501, 0), wide(500, 2), 1000, api.OK},
		{"Meet", wide(501, 0), wide(501, 2), 0, api.ErrLimit},
		{"Less", whole, rungs(999, 1), 1000, api.OK},
		{"Less", whole, rungs(1000, 0), 1000, api.OK},
		{"Less", whole, rungs(1000, 1), 0, api.ErrLimit},
		{"Less", rungs(1000, 0), nil, 1000, api.OK},
	} {
		for _, c := range combinations() {
			if c.name != x.name {
				continue
			}
			if l, e := c.call(x.a, x.b); len(l) != x.n || e != x.e {
				t.Errorf("case %d: %s has %d spans, %v; want %d, %v", i, x.name, len(l), e, x.n, x.e)
			}
		}
	}
}

// wide returns n spans of three numbers each, with a gap of a number between them, the first at from.
func wide(n, from int) []api.Span {
	var l []api.Span
	for i := range n {
		l = append(l, api.Span{From: from + 4*i, Until: from + 4*i + 3})
	}
	return l
}

// TestCount checks P2.1 for B5.
func TestCount(t *testing.T) {
	for _, x := range []struct {
		l    []api.Span
		want int
	}{
		{nil, 0},
		{set(0, 1), 1},
		{set(4, 9), 5},
		{set(1, 4, 6, 8), 5},
		{set(0, 1000000000), 1000000000},
		{rungs(1000, 7), 1000},
	} {
		if n, e := span.Count(x.l); n != x.want || e != api.OK {
			t.Errorf("Count(%v) = %d, %v", x.l, n, e)
		}
	}
}

// TestMost checks P2.1 for B6, and the example of the chapter.
func TestMost(t *testing.T) {
	for _, x := range []struct {
		l        []api.Span
		at, many int
	}{
		{nil, 0, 0},
		{[]api.Span{}, 0, 0},
		{set(1, 5, 3, 6, 4, 9), 4, 3},
		{set(4, 9, 1, 5, 3, 6), 4, 3},
		{set(0, 1), 0, 1},
		{set(7, 9), 7, 1},
		{set(7, 9, 7, 9), 7, 2},
		{set(1, 4, 4, 6), 1, 1},
		{set(4, 6, 1, 4), 1, 1},
		{set(5, 9, 1, 3, 6, 8, 2, 4), 2, 2},
		{set(1, 3, 2, 4, 6, 9, 6, 9, 6, 9), 6, 3},
		{set(1, 3, 1, 3, 3, 5, 3, 5), 1, 2},
		{set(1, 3, 1, 3, 3, 5, 3, 5, 2, 4), 2, 3},
		{set(0, 1000000000, 999999999, 1000000000), 999999999, 2},
	} {
		if at, many, e := span.Most(x.l); at != x.at || many != x.many || e != api.OK {
			t.Errorf("Most(%v) = %d, %d, %v; want %d, %d", x.l, at, many, e, x.at, x.many)
		}
	}
}

// TestMostLimits checks the ends of the limits of B6.
func TestMostLimits(t *testing.T) {
	most := slices.Repeat(set(3, 6), 3000)
	if at, many, e := span.Most(most); at != 3 || many != 3000 || e != api.OK {
		t.Errorf("3000 spans: %d, %d, %v", at, many, e)
	}
	if at, many, e := span.Most(append(most, api.Span{From: 3, Until: 6})); at != 0 || many != 0 || e != api.ErrArg {
		t.Errorf("3001 spans: %d, %d, %v", at, many, e)
	}
	if at, many, e := span.Most(rungs(3000, 5)); at != 5 || many != 1 || e != api.OK {
		t.Errorf("3000 spans apart: %d, %d, %v", at, many, e)
	}
	for _, bad := range []api.Span{{}, {From: 4, Until: 4}, {From: 5, Until: 4}, {From: -1, Until: 4}, {From: 0, Until: 1000000001}, {From: math.MinInt, Until: math.MaxInt}, {From: math.MaxInt, Until: math.MinInt}} {
		for _, l := range [][]api.Span{{bad}, {{From: 1, Until: 4}, bad}, {bad, {From: 1, Until: 4}}} {
			if at, many, e := span.Most(l); at != 0 || many != 0 || e != api.ErrArg {
				t.Errorf("Most(%v) = %d, %d, %v", l, at, many, e)
			}
		}
	}
}

// TestWeekday checks P2.1 for B7, and the example of the chapter.
func TestWeekday(t *testing.T) {
	for _, x := range []struct {
		night, want int
		e           api.Errno
	}{
		{0, 3, api.OK},
		{1, 4, api.OK},
		{2, 5, api.OK},
		{3, 6, api.OK},
		{4, 0, api.OK},
		{10, 6, api.OK},
		{365, 4, api.OK},
		{366, 5, api.OK},
		{367, 0, api.ErrArg},
		{-1, 0, api.ErrArg},
		{-7, 0, api.ErrArg},
		{math.MaxInt, 0, api.ErrArg},
		{math.MinInt, 0, api.ErrArg},
	} {
		if day, e := span.Weekday(x.night); day != x.want || e != x.e {
			t.Errorf("Weekday(%d) = %d, %v; want %d, %v", x.night, day, e, x.want, x.e)
		}
	}
}
