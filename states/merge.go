package states

import "munch/api"

// merge answers for every node its class: two nodes are in one just if their texts are alike.
func merge(g graph) []int {
	class := make([]int, len(g.rule))
	count := 0
	for {
		finer, finerCount := refine(g, class)
		if finerCount == count {
			return finer
		}
		class = finer
		count = finerCount
	}
}

// refine parts the nodes of a class that have different rules or of which some bytes lead into different classes.
func refine(g graph, class []int) ([]int, int) {
	finer := make([]int, len(class))
	count := 0
	for node := range class {
		finer[node] = count
		for earlier := 0; earlier < node; earlier++ {
			if together(g, class, earlier, node) {
				finer[node] = finer[earlier]
				break
			}
		}
		if finer[node] == count {
			count++
		}
	}
	return finer, count
}

func together(g graph, class []int, a, b int) bool {
	if class[a] != class[b] || g.rule[a] != g.rule[b] {
		return false
	}
	other := g.next[b]
	for k, to := range g.next[a] {
		if to == api.NoState || other[k] == api.NoState {
			if to != other[k] {
				return false
			}
		} else if class[to] != class[other[k]] {
			return false
		}
	}
	return true
}

// number makes one node of every class that can be reached, in the order of the states' numbers.
func number(g graph, class []int) graph {
	found, numbers := visit(g, class)
	numbered := graph{}
	for _, node := range found {
		row := make([]int, len(g.next[node]))
		for k, to := range g.next[node] {
			row[k] = api.NoState
			if to != api.NoState {
				row[k] = numbers[class[to]]
			}
		}
		numbered.rule = append(numbered.rule, g.rule[node])
		numbered.next = append(numbered.next, row)
	}
	return numbered
}

// visit answers a node of every class that can be reached, and of every class its number. They come in the order of their earliest texts, as the kinds of bytes are in the order of their lowest bytes.
func visit(g graph, class []int) ([]int, []int) {
	numbers := make([]int, len(class))
	for c := range numbers {
		numbers[c] = api.NoState
	}
	numbers[class[0]] = 0
	found := []int{0}
	for at := 0; at < len(found); at++ {
		for _, to := range g.next[found[at]] {
			if to != api.NoState && numbers[class[to]] == api.NoState {
				numbers[class[to]] = len(found)
				found = append(found, to)
			}
		}
	}
	return found, numbers
}
