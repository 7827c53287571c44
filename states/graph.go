package states

import (
	"munch/api"
	"munch/places"
)

// graph has nodes with a rule each, and for every kind of bytes the node to which it leads. Node 0 is where the empty text is.
type graph struct {
	rule []int
	next [][]int
}

// explore makes a graph of the sets of all texts: node 0 is the empty text, every other one is a set.
func explore(rules *places.Rules, kinds []places.Set) (graph, api.Errno) {
	g := graph{}
	// The empty text has no set. The empty one can hold its place, as no node is made of texts whose set is empty.
	sets := []places.Set{{}}
	for at := 0; at < len(sets); at++ {
		after := rules.First
		if at > 0 {
			after = rules.After(sets[at])
		}
		row := make([]int, len(kinds))
		for k, allowing := range kinds {
			set := after.And(allowing)
			row[k] = find(sets, set)
			if row[k] == len(sets) {
				sets = append(sets, set)
			}
		}
		if len(sets)-1 > api.MaxSets {
			return graph{}, api.ErrStates
		}
		rule := rules.Rule(sets[at])
		g.rule = append(g.rule, rule)
		g.next = append(g.next, row)
	}
	return g, api.OK
}

// find answers the node of a set: NoState for the empty one, and for a new one the node that comes next.
func find(sets []places.Set, set places.Set) int {
	if set.Empty() {
		return api.NoState
	}
	for node, known := range sets {
		if known == set {
			return node
		}
	}
	return len(sets)
}

// prune takes away the steps to nodes from which no token can be reached.
func prune(g graph) graph {
	alive := findAlive(g)
	pruned := graph{rule: g.rule}
	for _, row := range g.next {
		kept := make([]int, len(row))
		for k, to := range row {
			kept[k] = api.NoState
			if to != api.NoState && alive[to] {
				kept[k] = to
			}
		}
		pruned.next = append(pruned.next, kept)
	}
	return pruned
}

func findAlive(g graph) []bool {
	alive := make([]bool, len(g.rule))
	for node, rule := range g.rule {
		alive[node] = rule != api.NoRule
	}
	for changed := true; changed; {
		changed = false
		for node, row := range g.next {
			if !alive[node] && leadsTo(row, alive) {
				alive[node] = true
				changed = true
			}
		}
	}
	return alive
}

func leadsTo(row []int, marked []bool) bool {
	for _, to := range row {
		if to != api.NoState && marked[to] {
			return true
		}
	}
	return false
}
