// Package gap finds out how far one must look ahead.
package gap

import (
	"munch/api"
	"munch/states"
)

// Find tells how far one must look ahead (P6).
func Find(table *states.Table) api.Gap {
	w := weave(table)
	count := len(w.token)
	layers := w.layers(count)
	// That many bytes ahead of a token one has gone through some state twice, and can do so any number of times.
	for state, there := range layers[count] {
		if there {
			return w.endless(state, layers[:count])
		}
	}
	return w.bounded(layers[:count])
}

// bounded makes its pair of the greatest distance that the layers show.
func (w *web) bounded(layers [][]bool) api.Gap {
	start, distance := w.farthest(layers)
	from, _ := w.approach(start)
	_, rest := w.walk(start, layers[:distance])
	return api.Gap{Bounded: true, K: distance, From: from, To: from + rest}
}

// endless makes its loop of a walk from the state down through the layers, which goes through some state twice. As the token comes at its end alone, neither time is there: so there is a tail.
func (w *web) endless(state int, layers [][]bool) api.Gap {
	visited, text := w.walk(state, layers)
	first, second := repeat(visited)
	from, lead := w.approach(visited[first])
	return api.Gap{From: from, Lead: lead, Loop: text[first:second], Tail: text[second:]}
}

// repeat answers for the state that is the first to come again where it was and where it comes again; 0 and 0, if none does.
func repeat(visited []int) (int, int) {
	for second, late := range visited {
		for first, early := range visited[:second] {
			if early == late {
				return first, second
			}
		}
	}
	return 0, 0
}
