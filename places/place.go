package places

// place reads a place and tells which bytes it allows.
func (r *reader) place() ([256]bool, bool) {
	switch r.peek() {
	case end, '\n', '|', '*', '+', '?', '(', ')', ']':
		return [256]bool{}, false
	case '.':
		r.at++
		return allBut([256]bool{}), true
	case '[':
		return r.brackets()
	}
	b, ok := r.single()
	return withRange([256]bool{}, b, b), ok
}

// single reads a byte or a backslash and what is behind it; what may not stand here by itself the caller has kept away.
func (r *reader) single() (int, bool) {
	b := r.peek()
	r.at++
	if b != '\\' {
		return b, true
	}
	b = r.peek()
	switch b {
	case end, '\n':
		return 0, false
	case 'n':
		b = '\n'
	}
	r.at++
	return b, true
}

func (r *reader) brackets() ([256]bool, bool) {
	r.at++
	inverted := r.peek() == '^'
	if inverted {
		r.at++
	}
	low, high, ok := r.member()
	allowed := withRange([256]bool{}, low, high)
	for ok && r.peek() != ']' {
		low, high, ok = r.member()
		allowed = withRange(allowed, low, high)
	}
	if !ok {
		return [256]bool{}, false
	}
	r.at++
	if inverted {
		allowed = allBut(allowed)
	}
	return allowed, true
}

func (r *reader) member() (int, int, bool) {
	low, ok := r.item()
	if !ok || r.peek() != '-' {
		return low, low, ok
	}
	r.at++
	high, ok := r.item()
	if ok && high < low {
		// Only the item's last byte rules out a range: behind a backslash a higher one could still have come.
		r.at--
		return 0, 0, false
	}
	return low, high, ok
}

func (r *reader) item() (int, bool) {
	switch r.peek() {
	case end, '\n', ']', '-':
		return 0, false
	}
	return r.single()
}

func withRange(allowed [256]bool, low, high int) [256]bool {
	for b := range allowed {
		if low <= b && b <= high {
			allowed[b] = true
		}
	}
	return allowed
}

func allBut(allowed [256]bool) [256]bool {
	for b := range allowed {
		allowed[b] = !allowed[b]
	}
	return allowed
}
