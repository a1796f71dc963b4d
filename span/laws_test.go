package span_test

import (
	"math/rand"
	"slices"
	"testing"

	"innkeeper/api"
	"innkeeper/span"
)

// board is the highest number, and one more, of the sets that are looked at number by number.
const board = 40

// numbers says which numbers below board the spans of a list have.
func numbers(l []api.Span) [board]bool {
	var in [board]bool
	for _, s := range l {
		for n := s.From; n < s.Until; n++ {
			in[n] = true
		}
	}
	return in
}

// written returns the set of some numbers, written number by number.
func written(in [board]bool) []api.Span {
	var l []api.Span
	for n, there := range in {
		if !there {
			continue
		}
		if n > 0 && in[n-1] {
			l[len(l)-1].Until++
		} else {
			l = append(l, api.Span{From: n, Until: n + 1})
		}
	}
	return l
}

// random returns a set of numbers below board; one has few gaps, another has many.
func random(r *rand.Rand) []api.Span {
	var in [board]bool
	often := 1 + r.Intn(8)
	for n := range in {
		in[n] = n > 0 && in[n-1]
		if r.Intn(often) == 0 {
			in[n] = r.Intn(2) == 0
		}
	}
	return written(in)
}

// fine returns a result that must exist.
func fine(t *testing.T, call func(a, b []api.Span) ([]api.Span, api.Errno), a, b []api.Span) []api.Span {
	t.Helper()
	l, e := call(a, b)
	if e != api.OK || !span.Valid(l) {
		t.Fatalf("%v and %v: %v, %v", a, b, l, e)
	}
	return l
}

// size returns how many numbers a set must have.
func size(t *testing.T, l []api.Span) int {
	t.Helper()
	n, e := span.Count(l)
	if e != api.OK {
		t.Fatalf("Count(%v): %v", l, e)
	}
	return n
}

// TestNumbers checks P2.2 and P2.3: the results have the numbers that they should have, in their one form, and the order of both does not matter.
func TestNumbers(t *testing.T) {
	r := rand.New(rand.NewSource(2))
	for range 5000 {
		a, b := random(r), random(r)
		inA, inB := numbers(a), numbers(b)
		for _, c := range combinations() {
			var in [board]bool
			for n := range in {
				in[n] = c.has(inA[n], inB[n])
			}
			if l := fine(t, c.call, a, b); !slices.Equal(l, written(in)) {
				t.Fatalf("%s(%v, %v) = %v; want %v", c.name, a, b, l, written(in))
			}
		}
		if !slices.Equal(fine(t, span.Union, a, b), fine(t, span.Union, b, a)) {
			t.Fatalf("the union of %v and %v depends on their order", a, b)
		}
		if !slices.Equal(fine(t, span.Meet, a, b), fine(t, span.Meet, b, a)) {
			t.Fatalf("the meet of %v and %v depends on their order", a, b)
		}
	}
}

// TestOneForm checks P2.3: of all lists of up to three spans of few numbers, exactly one that is a set has some given numbers.
func TestOneForm(t *testing.T) {
	const top = 5
	forms := map[[board]bool]int{}
	lists := [][]api.Span{nil}
	for len(lists[0]) <= 3 {
		var longer [][]api.Span
		for _, l := range lists {
			if span.Valid(l) {
				forms[numbers(l)]++
			}
			for from := range top {
				for until := from; until <= top; until++ {
					longer = append(longer, append(slices.Clip(l), api.Span{From: from, Until: until}))
				}
			}
		}
		lists = longer
	}
	if len(forms) != 1<<top {
		t.Errorf("%d sets of numbers have a form; want %d", len(forms), 1<<top)
	}
	for in, n := range forms {
		if n != 1 {
			t.Errorf("%v has %d forms", written(in), n)
		}
	}
}

// TestSums checks P2.4 and P2.5.
func TestSums(t *testing.T) {
	r := rand.New(rand.NewSource(3))
	for range 5000 {
		a, b, c := random(r), random(r), random(r)
		union, meet, less := fine(t, span.Union, a, b), fine(t, span.Meet, a, b), fine(t, span.Less, a, b)
		if size(t, a)+size(t, b) != size(t, union)+size(t, meet) {
			t.Fatalf("%v and %v are counted as %d and %d, their union and meet as %d and %d", a, b, size(t, a), size(t, b), size(t, union), size(t, meet))
		}
		if again := fine(t, span.Union, meet, less); !slices.Equal(again, a) {
			t.Fatalf("%v and %v make %v, not %v", meet, less, again, a)
		}
		left := fine(t, span.Meet, a, fine(t, span.Union, b, c))
		right := fine(t, span.Union, fine(t, span.Meet, a, b), fine(t, span.Meet, a, c))
		if !slices.Equal(left, right) {
			t.Fatalf("%v, %v and %v: %v and %v", a, b, c, left, right)
		}
	}
}

// TestLongSets checks P2.2 to P2.5 for sets up to the limits.
func TestLongSets(t *testing.T) {
	r := rand.New(rand.NewSource(4))
	for range 300 {
		a, b := long(r), long(r)
		union, e := span.Union(a, b)
		meet, f := span.Meet(a, b)
		less, g := span.Less(a, b)
		if e != api.OK || f != api.OK || g != api.OK {
			continue
		}
		if size(t, a)+size(t, b) != size(t, union)+size(t, meet) || size(t, a) != size(t, meet)+size(t, less) {
			t.Fatalf("%d and %d spans are counted wrong", len(a), len(b))
		}
		if again := fine(t, span.Union, less, meet); !slices.Equal(again, a) {
			t.Fatalf("%d and %d spans make another set again", len(a), len(b))
		}
	}
}

// long returns a set of up to 1000 spans anywhere below the limit.
func long(r *rand.Rand) []api.Span {
	var l []api.Span
	at := r.Intn(1000)
	for range r.Intn(1001) {
		s := api.Span{From: at, Until: at + 1 + r.Intn(500000)}
		l = append(l, s)
		at = s.Until + 1 + r.Intn(400000)
	}
	return l
}

// TestMostOfAny checks P2.6, with numbers counted one by one.
func TestMostOfAny(t *testing.T) {
	r := rand.New(rand.NewSource(5))
	for range 5000 {
		var l []api.Span
		var in [board]int
		for range r.Intn(12) {
			from := r.Intn(board)
			s := api.Span{From: from, Until: from + 1 + r.Intn(board-from)}
			l = append(l, s)
			for n := s.From; n < s.Until; n++ {
				in[n]++
			}
		}
		many := slices.Max(in[:])
		at := slices.Index(in[:], many)
		if n, k, e := span.Most(l); n != at || k != many || e != api.OK {
			t.Fatalf("Most(%v) = %d, %d, %v; want %d, %d", l, n, k, e, at, many)
		}
	}
}

// TestWeekdays checks P2.7.
func TestWeekdays(t *testing.T) {
	for night := 1; night <= api.MaxNight; night++ {
		before, e := span.Weekday(night - 1)
		day, f := span.Weekday(night)
		if e != api.OK || f != api.OK || day != (before+1)%7 {
			t.Errorf("nights %d and %d: weekdays %d and %d, %v and %v", night-1, night, before, day, e, f)
		}
		if night < 7 {
			continue
		}
		if back, e := span.Weekday(night - 7); back != day || e != api.OK {
			t.Errorf("nights %d and %d: weekdays %d and %d, %v", night-7, night, back, day, e)
		}
	}
}

// TestArgumentsStay checks the document's Rules: calls change no argument, share no memory with one, and are repeatable.
func TestArgumentsStay(t *testing.T) {
	a, b := set(1, 6, 8, 9), set(6, 8, 12, 14)
	for _, c := range combinations() {
		for _, x := range [][2][]api.Span{{a, b}, {a, nil}, {nil, b}, {a, a}} {
			before := [2][]api.Span{slices.Clone(x[0]), slices.Clone(x[1])}
			l := fine(t, c.call, x[0], x[1])
			first := slices.Clone(l)
			for i := range l {
				l[i] = api.Span{From: -1, Until: -1}
			}
			if !slices.Equal(x[0], before[0]) || !slices.Equal(x[1], before[1]) {
				t.Fatalf("%s shares memory with its arguments", c.name)
			}
			if again := fine(t, c.call, x[0], x[1]); !slices.Equal(again, first) {
				t.Fatalf("%s: %v, then %v", c.name, first, again)
			}
		}
	}
	l := set(5, 9, 1, 3, 6, 8)
	before := slices.Clone(l)
	span.Most(l)
	if !slices.Equal(l, before) {
		t.Errorf("Most sorts its argument: %v", l)
	}
}

// TestAllArguments checks P1: no list of spans with numbers at the ends of an int panics, and errors come with zero values.
func TestAllArguments(t *testing.T) {
	ends := []int{-1 << 63, -1<<63 + 1, -1000000001, -1, 0, 1, 2, 366, 999999999, 1000000000, 1000000001, 1<<63 - 2, 1<<63 - 1}
	var lists [][]api.Span
	for _, from := range ends {
		for _, until := range ends {
			s := api.Span{From: from, Until: until}
			lists = append(lists, []api.Span{s}, []api.Span{{From: 0, Until: 1}, s}, []api.Span{s, {From: 3, Until: 5}})
		}
		span.Weekday(from)
	}
	for _, a := range lists {
		if n, e := span.Count(a); (e == api.OK) != span.Valid(a) || e != api.OK && n != 0 {
			t.Errorf("Count(%v) = %d, %v", a, n, e)
		}
		if at, many, e := span.Most(a); e != api.OK && (at != 0 || many != 0 || e != api.ErrArg) || e == api.OK && many == 0 {
			t.Errorf("Most(%v) = %d, %d, %v", a, at, many, e)
		}
		for _, b := range lists {
			both := span.Valid(a) && span.Valid(b)
			for _, c := range combinations() {
				l, e := c.call(a, b)
				if (e == api.OK) != both || e != api.OK && (e != api.ErrArg || len(l) > 0) || !span.Valid(l) {
					t.Errorf("%s(%v, %v) = %v, %v", c.name, a, b, l, e)
				}
			}
		}
	}
}
