package rate

import (
	"iter"

	"innkeeper/api"
	"innkeeper/ratio"
	"innkeeper/span"
)

// variables returns the variables for a night of an ask, which is well-formed.
func variables(a api.Ask, night int) [4]int {
	return [4]int{
		api.VarNights - 1:  a.Until - a.From,
		api.VarPersons - 1: a.Persons,
		api.VarNight - 1:   night - a.From,
		api.VarWeekday - 1: weekday(night),
	}
}

// weekday returns the weekday of a night, which is one of a well-formed ask.
func weekday(night int) int {
	day, _ := span.Weekday(night)
	return day
}

// suits reports whether a rate applies to a night of an ask if its condition is true.
func suits(r api.Rate, a api.Ask, night int) bool {
	nights := a.Until - a.From
	return r.Kind == a.Kind &&
		r.Season.From <= night && night < r.Season.Until &&
		r.Least <= nights && nights <= r.Most &&
		r.Arrive&(1<<weekday(a.From)) != 0
}

// applies reports whether a rate applies to the night of an ask whose variables the computer has. The condition of a rate that does not suit is not computed, so that its errors do not count.
func (c *computer) applies(r api.Rate, a api.Ask, night int) bool {
	return suits(r, a, night) && c.holds(r.When)
}

// applying ranges over the rates that apply, in their order.
func (c *computer) applying(l []api.Rate, a api.Ask, night int) iter.Seq[api.Rate] {
	return func(yield func(api.Rate) bool) {
		for _, r := range l {
			if c.applies(r, a, night) && !yield(r) {
				return
			}
		}
	}
}

// winner returns the rate that decides the price. It looks at all rates, as the first error of any of them counts before.
func (c *computer) winner(l []api.Rate, a api.Ask, night int) api.Rate {
	var best api.Rate
	found := false
	for r := range c.applying(l, a, night) {
		if !found || r.Level > best.Level || r.Level == best.Level && r.ID < best.ID {
			best, found = r, true
		}
	}
	if !found {
		panic(api.ErrNone)
	}
	return best
}

// price returns the price by a rate.
func (c *computer) price(by api.Rate) int {
	cents := need(ratio.Round(c.value(by.Price), api.RoundEven))
	if cents < 0 {
		panic(api.ErrPrice)
	}
	return cents
}
