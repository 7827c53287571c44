// Package cut cuts inputs into tokens.
package cut

import (
	"munch/api"
	"munch/states"
)

// Start is how a cut stands at a place up to which all tokens were told, if nothing has come behind it.
func Start(place int) api.Saved {
	return api.Saved{At: place, End: place, Rule: api.NoRule, State: 0}
}

// On goes on with a cut that stands so, when more bytes come. It answers the tokens that are certain now (if the input ends behind the bytes, all of them), and how the cut stands then.
func On(table *states.Table, stand api.Saved, bytes string, ends bool) ([]api.Token, api.Saved) {
	tokens := []api.Token{}
	stand.Tail += bytes
	for stand.End > stand.At || stand.Tail != "" {
		longest, open := stretch(table, stand)
		stand = longest
		if open && !ends {
			break
		}
		if stand.End == stand.At {
			// No token begins here: so its one byte is still the first of the Tail.
			stand.End++
			stand.Tail = stand.Tail[1:]
		}
		tokens = append(tokens, api.Token{Rule: stand.Rule, From: stand.At, To: stand.End})
		rest := stand.Tail
		stand = Start(stand.End)
		stand.Tail = rest
	}
	stand.Tail = own(stand.Tail)
	return tokens, stand
}

// stretch goes along the Tail to the longest token that begins at At, and tells whether with more bytes a longer one may come.
func stretch(table *states.Table, stand api.Saved) (api.Saved, bool) {
	text := stand.Tail
	begin := stand.End
	state := stand.State
	for i := 0; i < len(text); i++ {
		state = table.Next(state, int(text[i]))
		if state == api.NoState {
			return stand, false
		}
		rule := table.Rule(state)
		if rule != api.NoRule {
			stand = api.Saved{At: stand.At, End: begin + i + 1, Rule: rule, State: state, Tail: text[i+1:]}
		}
	}
	return stand, table.LeadsOn(state)
}

// own copies a text: of what is handed in nothing may be kept, and a piece of a long text would keep all of it.
func own(text string) string {
	bytes := []byte{}
	bytes = append(bytes, text...)
	return string(bytes)
}
