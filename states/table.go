// Package states finds the states of a rule text, and where bytes lead from one to another.
package states

import (
	"munch/api"
	"munch/places"
)

// Table is the states of a rule text.
type Table struct {
	kind [256]int
	g    graph
}

// Build makes the table of the states; ErrStates, if there are more sets of places than may be.
func Build(rules *places.Rules) (Table, api.Errno) {
	kind, kinds := sortBytes(rules)
	g, e := explore(rules, kinds)
	if e != api.OK {
		return Table{}, e
	}
	g = prune(g)
	class := merge(g)
	g = number(g, class)
	return Table{kind: kind, g: g}, api.OK
}

// sortBytes puts bytes that the same places allow into one kind, as they lead to the same states. It answers the kind of every byte, and of every kind the places that allow it.
func sortBytes(rules *places.Rules) ([256]int, []places.Set) {
	kind := [256]int{}
	kinds := []places.Set{}
	for b, allowing := range rules.Allowing {
		k := 0
		for k < len(kinds) && kinds[k] != allowing {
			k++
		}
		if k == len(kinds) {
			kinds = append(kinds, allowing)
		}
		kind[b] = k
	}
	return kind, kinds
}

// Count tells how many states there are.
func (t *Table) Count() int {
	return len(t.g.rule)
}

// Next tells to which state a byte leads; NoState, if there is no such state or byte, or it leads to none.
func (t *Table) Next(state, b int) int {
	if state < 0 || state >= len(t.g.next) || b < 0 || b >= len(t.kind) {
		return api.NoState
	}
	return t.g.next[state][t.kind[b]]
}

// Rule tells of which rule the texts of a state are tokens; NoRule, if there is no such state or they are none.
func (t *Table) Rule(state int) int {
	if state < 0 || state >= len(t.g.rule) {
		return api.NoRule
	}
	return t.g.rule[state]
}

// LeadsOn tells whether some byte leads from a state to one; not, if there is no such state.
func (t *Table) LeadsOn(state int) bool {
	if state < 0 || state >= len(t.g.next) {
		return false
	}
	for _, to := range t.g.next[state] {
		if to != api.NoState {
			return true
		}
	}
	return false
}
