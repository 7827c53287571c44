package places

import "munch/api"

// reader goes through a rule text once, from left to right. It stops at the first byte with which no rule text goes on: so where a method answers false, at is the place that P3 asks for.
type reader struct {
	text  string
	at    int
	rules *Rules
}

const end = -1

// Read reads a rule text. If it is none: nil, the error and the place of the fault (P3).
func Read(text string) (*Rules, api.Errno, int) {
	if len(text) > api.MaxText {
		return nil, api.ErrLong, 0
	}
	r := reader{text: text, rules: &Rules{}}
	ok := r.all()
	if !ok {
		return nil, api.ErrSyntax, r.at
	}
	return r.rules, api.OK, 0
}

func (r *reader) peek() int {
	if r.at < 0 || r.at >= len(r.text) {
		return end
	}
	return int(r.text[r.at])
}

func (r *reader) all() bool {
	ok := r.rule()
	for ok && r.peek() == '\n' {
		r.at++
		ok = r.rule()
	}
	return ok && r.peek() == end
}

func (r *reader) rule() bool {
	whole, ok := r.expression()
	if ok {
		r.rules.endRule(whole)
	}
	return ok
}

func (r *reader) expression() (part, bool) {
	whole, ok := r.alternative()
	for ok && r.peek() == '|' {
		r.at++
		next, nextOK := r.alternative()
		whole = either(whole, next)
		ok = nextOK
	}
	return whole, ok
}

func (r *reader) alternative() (part, bool) {
	whole, ok := r.piece()
	for ok && !r.alternativeEnds() {
		next, nextOK := r.piece()
		whole = r.rules.chain(whole, next)
		ok = nextOK
	}
	return whole, ok
}

func (r *reader) alternativeEnds() bool {
	switch r.peek() {
	case end, '\n', '|', ')':
		return true
	}
	return false
}

func (r *reader) piece() (part, bool) {
	p, ok := r.atom()
	if !ok {
		return part{}, false
	}
	switch r.peek() {
	case '*':
		r.rules.link(p.last, p.first)
		p.empty = true
	case '+':
		r.rules.link(p.last, p.first)
	case '?':
		p.empty = true
	default:
		return p, true
	}
	r.at++
	return p, true
}

func (r *reader) atom() (part, bool) {
	if r.peek() == '(' {
		return r.group()
	}
	allowed, ok := r.place()
	if !ok {
		return part{}, false
	}
	return r.rules.add(allowed), true
}

func (r *reader) group() (part, bool) {
	r.at++
	inner, ok := r.expression()
	if !ok || r.peek() != ')' {
		return part{}, false
	}
	r.at++
	return inner, true
}
