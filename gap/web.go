package gap

import (
	"munch/api"
	"munch/states"
)

// step is a text of one byte and the state to which it leads.
type step struct {
	text string
	to   int
}

// web has of every state whether its texts are tokens, and one step to each state to which some byte leads, in the order of their bytes.
type web struct {
	token []bool
	steps [][]step
}

func weave(table *states.Table) *web {
	w := &web{}
	for state := 0; state < table.Count(); state++ {
		rule := table.Rule(state)
		w.token = append(w.token, rule != api.NoRule)
		steps := stepsFrom(table, state)
		w.steps = append(w.steps, steps)
	}
	return w
}

func stepsFrom(table *states.Table, state int) []step {
	steps := []step{}
	seen := make([]bool, table.Count())
	for b := 0; b < 256; b++ {
		to := table.Next(state, b)
		if to != api.NoState && !seen[to] {
			seen[to] = true
			steps = append(steps, step{text: string([]byte{byte(b)}), to: to})
		}
	}
	return steps
}

// into is the first step from a state to one that is marked.
func (w *web) into(state int, marked []bool) (step, bool) {
	for _, s := range w.steps[state] {
		if marked[s.to] {
			return s, true
		}
	}
	return step{}, false
}

// layers answers for each d from 0 to most the states from which d bytes can lead to a token with none ahead of it: for 0 those of tokens, else others alone.
func (w *web) layers(most int) [][]bool {
	layers := [][]bool{w.token}
	for d := 1; d <= most; d++ {
		layer := make([]bool, len(w.token))
		for state, token := range w.token {
			_, leads := w.into(state, layers[d-1])
			layer[state] = leads && !token
		}
		layers = append(layers, layer)
	}
	return layers
}

// farthest answers the greatest distance that the layers show, and a state of whose texts some begin a neighbour pair with it: tokens or the empty one. 0 and 0, if there is none.
func (w *web) farthest(layers [][]bool) (int, int) {
	for distance := len(layers); distance > 0; distance-- {
		for state, token := range w.token {
			_, leads := w.into(state, layers[distance-1])
			if leads && (token || state == 0) {
				return state, distance
			}
		}
	}
	return 0, 0
}

// walk goes from a state down through the layers. It answers all states on the way, the first one too, and the text that leads along them.
func (w *web) walk(start int, layers [][]bool) ([]int, string) {
	visited := []int{start}
	text := ""
	at := start
	for d := len(layers) - 1; d >= 0; d-- {
		s, leads := w.into(at, layers[d])
		if !leads {
			break
		}
		at = s.to
		visited = append(visited, at)
		text += s.text
	}
	return visited, text
}

// approach answers the earliest text of a state in two: the longest token with which it begins, if there is one, and what is behind that. As the states are numbered by these texts, that of a state is known when its turn comes.
func (w *web) approach(wanted int) (string, string) {
	token := make([]string, len(w.token))
	rest := make([]string, len(w.token))
	found := make([]bool, len(w.token))
	found[0] = true
	for state, steps := range w.steps {
		for _, s := range steps {
			if found[s.to] {
				continue
			}
			found[s.to] = true
			token[s.to] = token[state]
			rest[s.to] = rest[state] + s.text
			if w.token[s.to] {
				token[s.to] += rest[s.to]
				rest[s.to] = ""
			}
		}
	}
	return token[wanted], rest[wanted]
}
