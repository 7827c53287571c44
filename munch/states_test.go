package munch_test

import (
	"math/rand"
	"strings"
	"testing"

	"munch/api"
	"munch/munch"
)

func TestExamplesOfStates(t *testing.T) {
	for _, c := range []struct {
		s     string
		rules []int
		// next: state, byte, state; all else is NoState, if whole.
		next  [][3]int
		whole bool
	}{
		{"a|abc", []int{-1, 0, -1, 0}, [][3]int{{0, 'a', 1}, {1, 'b', 2}, {2, 'c', 3}}, true},
		{"if\n[a-z]+", []int{-1, 1, 1, 0}, [][3]int{{0, 'a', 1}, {0, 'i', 2}, {2, 'f', 3}, {2, 'g', 1}, {3, 'f', 1}}, false},
		{"a|a*b", []int{-1, 0, 0, -1}, [][3]int{{0, 'a', 1}, {0, 'b', 2}, {1, 'a', 3}, {1, 'b', 2}, {3, 'a', 3}, {3, 'b', 2}}, true},
		{"(ab)*c", []int{-1, -1, 0}, [][3]int{{0, 'a', 1}, {1, 'b', 0}, {0, 'c', 2}}, true},
		{"[^\\n]?x*", []int{-1, 0}, [][3]int{{0, 10, -1}, {0, 'x', 1}, {1, 'x', 1}, {1, 'a', -1}}, false},
		{"[^\x00-\xff]", []int{-1}, nil, true},
		// The empty text is no token, though a way is empty.
		{"a*", []int{-1, 0}, [][3]int{{0, 'a', 1}, {1, 'a', 1}}, true},
		// The first rule counts; a rule that none of its texts is left to has no state.
		{"b|a\na\na|c", []int{-1, 0, 2}, [][3]int{{0, 'a', 1}, {0, 'b', 1}, {0, 'c', 2}}, true},
		// What leads to no token is not alive, a way or not.
		{"a[^\x00-\xff]|b", []int{-1, 0}, [][3]int{{0, 'b', 1}}, true},
		{"(a[^\x00-\xff])*", []int{-1}, nil, true},
		// A shorter text is earlier, whatever its bytes; of one length the lower byte counts, \xff above \x00.
		{"aa\nz", []int{-1, -1, 1, 0}, [][3]int{{0, 'a', 1}, {0, 'z', 2}, {1, 'a', 3}}, true},
		{"\xffa\n\x00b", []int{-1, -1, -1, 1, 0}, [][3]int{{0, 0, 1}, {0, 255, 2}, {1, 'b', 3}, {2, 'a', 4}}, true},
	} {
		x := mustNew(t, c.s)
		checkRules(t, x, c.s, c.rules)
		want := map[[2]int]int{}
		for _, n := range c.next {
			want[[2]int{n[0], n[1]}] = n[2]
		}
		for s := range c.rules {
			for b := 0; b < 256; b++ {
				to, told := want[[2]int{s, b}]
				if !told {
					to = api.NoState
				}
				if n := x.Next(s, b); n != to && (told || c.whole) {
					t.Errorf("P4: %q: Next(%d, %d) = %d, want %d", c.s, s, b, n, to)
				}
			}
		}
	}
}

func checkRules(t *testing.T, x *munch.Lexer, s string, rules []int) {
	t.Helper()
	if n := x.States(); n != len(rules) {
		t.Errorf("P4: %q: States() = %d, want %d", s, n, len(rules))
	}
	for state, want := range rules {
		if r := x.Rule(state); r != want {
			t.Errorf("P4: %q: Rule(%d) = %d, want %d", s, state, r, want)
		}
	}
}

func TestManyPlaces(t *testing.T) {
	s := strings.Repeat("a", 59) + "\n" + strings.Repeat("a", 60)
	x := mustNew(t, s)
	for state := 0; state < 61; state++ {
		next, rule := state+1, map[int]int{59: 0, 60: 1}
		if state == 60 {
			next = api.NoState
		}
		if n := x.Next(state, 'a'); n != next {
			t.Errorf("P4: Next(%d, 'a') = %d, want %d", state, n, next)
		}
		want, told := rule[state]
		if !told {
			want = api.NoRule
		}
		if r := x.Rule(state); r != want {
			t.Errorf("P4: Rule(%d) = %d, want %d", state, r, want)
		}
	}
}

// TestShortTexts asks the definition of a token itself about every short text.
func TestShortTexts(t *testing.T) {
	r := rand.New(rand.NewSource(1))
	for i := 0; i < 300; i++ {
		rules := randomRules(r)
		x, e, _ := munch.New(joined(rules))
		if e == api.ErrStates {
			continue
		}
		if x == nil {
			t.Fatalf("P3: New(%q) = nil, %d", joined(rules), e)
		}
		for _, w := range textsUpTo("ab\n\xff", 4) {
			if got, want := ruleAlong(x, w), tokenRule(rules, w); got != want {
				t.Fatalf("P4: %q: the rule of %q is %d, want %d", joined(rules), w, got, want)
			}
		}
	}
}

func textsUpTo(bytes string, most int) []string {
	texts := []string{""}
	for at := 0; at < len(texts); at++ {
		for i := 0; len(texts[at]) < most && i < len(bytes); i++ {
			texts = append(texts, texts[at]+bytes[i:i+1])
		}
	}
	return texts
}

func ruleAlong(x *munch.Lexer, w string) int {
	s := 0
	for i := 0; i < len(w) && s >= 0; i++ {
		s = x.Next(s, int(w[i]))
	}
	return x.Rule(s)
}

// TestRandomStates: that tokens and what is alive are as the rules say, that no two states are alike, and that the numbers are in order, leaves just one answer.
func TestRandomStates(t *testing.T) {
	r := rand.New(rand.NewSource(2))
	for i := 0; i < 600 && !t.Failed(); i++ {
		rules := randomRules(r)
		s := joined(rules)
		m := newWeb(rules).sets(api.MaxSets)
		if m == nil {
			wantError(t, s, api.ErrStates)
			continue
		}
		x := mustNew(t, s)
		checkModel(t, x, s, m)
		checkUnlike(t, x, s)
		checkOrder(t, x, s)
	}
}

func checkModel(t *testing.T, x *munch.Lexer, s string, m *model) {
	t.Helper()
	pairs := [][2]int{{0, 0}}
	seen := map[[2]int]bool{pairs[0]: true}
	for at := 0; at < len(pairs); at++ {
		node, state := pairs[at][0], pairs[at][1]
		if got, want := x.Rule(state), m.rule[node]; got != want {
			t.Errorf("P4: %q: Rule(%d) = %d, want %d", s, state, got, want)
		}
		for b, to := range m.next[node] {
			next := x.Next(state, b)
			alive := to >= 0 && m.alive[to]
			if alive != (next != api.NoState) {
				t.Errorf("P4: %q: Next(%d, %d) = %d, alive: %v", s, state, b, next, alive)
				return
			}
			if pair := [2]int{to, next}; alive && !seen[pair] {
				seen[pair] = true
				pairs = append(pairs, pair)
			}
		}
	}
}

func checkUnlike(t *testing.T, x *munch.Lexer, s string) {
	t.Helper()
	n := x.States()
	class, count := make([]int, n), 0
	for {
		known := map[[258]int]int{}
		finer := make([]int, n)
		for state := range finer {
			key := [258]int{256: class[state], 257: x.Rule(state)}
			for b := 0; b < 256; b++ {
				key[b] = -1
				if to := x.Next(state, b); to >= 0 {
					key[b] = class[to]
				}
			}
			if _, ok := known[key]; !ok {
				known[key] = len(known)
			}
			finer[state] = known[key]
		}
		class = finer
		if len(known) == count {
			break
		}
		count = len(known)
	}
	if count != n {
		t.Errorf("P4: %q: of %d states only %d are not alike", s, n, count)
	}
}

func checkOrder(t *testing.T, x *munch.Lexer, s string) {
	t.Helper()
	found := 1
	for state := 0; state < found; state++ {
		for b := 0; b < 256; b++ {
			switch to := x.Next(state, b); {
			case to == found:
				found++
			case to > found || to < api.NoState:
				t.Errorf("P4: %q: Next(%d, %d) = %d, but the next number is %d", s, state, b, to, found)
				return
			}
		}
	}
	if n := x.States(); n != found {
		t.Errorf("P4: %q: States() = %d, but %d are reached", s, n, found)
	}
}

func TestWrongNumbers(t *testing.T) {
	const most, least = 1<<63 - 1, -1 << 63
	for _, s := range []string{".", ".*\na", "[^\x00-\xff]", strings.Repeat(".", 60)} {
		x := mustNew(t, s)
		n := x.States()
		for _, wrong := range []int{-1, -2, n, n + 1, n + 256, 1 << 32, most, least} {
			if r := x.Rule(wrong); r != api.NoRule {
				t.Errorf("P4: %q: Rule(%d) = %d, want NoRule", s, wrong, r)
			}
			for _, b := range []int{'a', 0, 255, -1, 256, most, least} {
				if to := x.Next(wrong, b); to != api.NoState {
					t.Errorf("P4: %q: Next(%d, %d) = %d, want NoState", s, wrong, b, to)
				}
			}
		}
		for state := 0; state < n; state++ {
			for _, wrong := range []int{-1, 256, 256 + 'a', 'a' - 256, 1 << 32, most, least} {
				if to := x.Next(state, wrong); to != api.NoState {
					t.Errorf("P4: %q: Next(%d, %d) = %d, want NoState", s, state, wrong, to)
				}
			}
		}
	}
}
