package span

import (
	"iter"
	"slices"

	"innkeeper/api"
)

// end is a number at which a span begins or stops: the number, the list of the span (0 or 1), and by how much that list then has more spans.
type end [3]int

// ends returns the ends of the spans of two lists, in order of their numbers.
func ends(a, b []api.Span) []end {
	var l []end
	for which, spans := range [2][]api.Span{a, b} {
		for _, s := range spans {
			l = append(l, end{s.From, which, 1}, end{s.Until, which, -1})
		}
	}
	slices.SortFunc(l, func(x, y end) int { return slices.Compare(x[:], y[:]) })
	return l
}

// pieces ranges over the pieces into which the ends of the spans of two lists cut the numbers, with how many spans of each list have them; numbers that no span has are left out.
func pieces(a, b []api.Span) iter.Seq2[api.Span, [2]int] {
	return func(yield func(api.Span, [2]int) bool) {
		none := [2]int{}
		at, in := 0, none
		for _, e := range ends(a, b) {
			piece := api.Span{From: at, Until: e[0]}
			if piece.From < piece.Until && in != none && !yield(piece, in) {
				return
			}
			at = e[0]
			in[e[1]] += e[2]
		}
	}
}
