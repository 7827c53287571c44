package cut

import (
	"munch/api"
	"munch/states"
)

// Resume is how a cut stands that was saved; false, if none can stand so.
func Resume(table *states.Table, saved api.Saved) (api.Saved, bool) {
	if !inRoom(saved) {
		return api.Saved{}, false
	}
	if !namesToken(table, saved) {
		return api.Saved{}, false
	}
	if !awaitsMore(table, saved) {
		return api.Saved{}, false
	}
	saved.Tail = own(saved.Tail)
	return saved, true
}

// inRoom tells whether the places are in order and not above MaxOffset. End and the Tail's length are not added up, as the sum may be more than an int holds.
func inRoom(saved api.Saved) bool {
	if saved.At < 0 || saved.End < saved.At {
		return false
	}
	return len(saved.Tail) <= api.MaxOffset-saved.End
}

// namesToken tells whether State and Rule can be those of a token from At to End; where there is no byte between these two, whether they are those of none.
func namesToken(table *states.Table, saved api.Saved) bool {
	if saved.End == saved.At {
		return saved.Rule == api.NoRule && saved.State == 0
	}
	rule := table.Rule(saved.State)
	return rule != api.NoRule && rule == saved.Rule
}

// awaitsMore tells whether the Tail leads over no token, and to one that is still to come: else the longest token would not end at End, or be certain. Where nothing came behind At, there is no token that could be so.
func awaitsMore(table *states.Table, saved api.Saved) bool {
	text := saved.Tail
	if text == "" && saved.End == saved.At {
		return true
	}
	state := saved.State
	for i := 0; i < len(text); i++ {
		state = table.Next(state, int(text[i]))
		if state == api.NoState {
			return false
		}
		rule := table.Rule(state)
		if rule != api.NoRule {
			return false
		}
	}
	return table.LeadsOn(state)
}
