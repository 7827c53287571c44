// Package cut cuts inputs into tokens.
package cut

import (
	"munch/api"
	"munch/states"
)

// All answers the tokens of the cut of an input, in order.
func All(table *states.Table, input string) []api.Token {
	tokens := []api.Token{}
	for at := 0; at < len(input); {
		token := next(table, input, at)
		tokens = append(tokens, token)
		at = token.To
	}
	return tokens
}

// next is the token with which the cut goes on at a place ahead of the input's end.
func next(table *states.Table, input string, at int) api.Token {
	token := api.Token{Rule: api.NoRule, From: at, To: at + 1}
	state := 0
	for place := at; place < len(input); place++ {
		state = table.Next(state, int(input[place]))
		if state == api.NoState {
			break
		}
		rule := table.Rule(state)
		if rule != api.NoRule {
			token = api.Token{Rule: rule, From: at, To: place + 1}
		}
	}
	return token
}
