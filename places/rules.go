// Package places reads rule texts: it finds their places, and which place may stand behind which on a way.
package places

import "munch/api"

// Rules is what a rule text says. The places are numbered from 0 on, through all rules.
type Rules struct {
	// Allowing has for every byte the places that allow it.
	Allowing [256]Set
	// First has the places with which ways through the rules begin.
	First  Set
	follow []Set // by place
	last   []Set // by rule
}

// After is the set of the places that come on some way directly behind one of s.
func (r *Rules) After(s Set) Set {
	after := Set{}
	for place, follow := range r.follow {
		if s.has(place) {
			after = after.Or(follow)
		}
	}
	return after
}

// Rule is the first rule through which some way ends with a place of s; NoRule, if there is none.
func (r *Rules) Rule(s Set) int {
	for rule, last := range r.last {
		if s.Meets(last) {
			return rule
		}
	}
	return api.NoRule
}

// part is what a bit of an expression adds to the ways that it is on.
type part struct {
	first, last Set
	// empty: the empty list is a way through it.
	empty bool
}

func (r *Rules) add(allowed [256]bool) part {
	place := only(len(r.follow))
	r.follow = append(r.follow, Set{})
	for b, yes := range allowed {
		if yes {
			r.Allowing[b] = r.Allowing[b].Or(place)
		}
	}
	return part{first: place, last: place}
}

func (r *Rules) link(from, to Set) {
	for place := range r.follow {
		if from.has(place) {
			r.follow[place] = r.follow[place].Or(to)
		}
	}
}

func (r *Rules) chain(a, b part) part {
	r.link(a.last, b.first)
	both := part{first: a.first, last: b.last, empty: a.empty && b.empty}
	if a.empty {
		both.first = both.first.Or(b.first)
	}
	if b.empty {
		both.last = both.last.Or(a.last)
	}
	return both
}

func either(a, b part) part {
	first := a.first.Or(b.first)
	last := a.last.Or(b.last)
	return part{first: first, last: last, empty: a.empty || b.empty}
}

func (r *Rules) endRule(whole part) {
	r.First = r.First.Or(whole.first)
	r.last = append(r.last, whole.last)
}
