package munch_test

import (
	"math/rand"
	"strings"
	"testing"

	"munch/api"
	"munch/munch"
)

// rulesAlong: for every beginning of w, from the empty one to w, of which rule it is a token.
func rulesAlong(x *munch.Lexer, w string) []int {
	s, rules := 0, []int{api.NoRule}
	for i := 0; i < len(w); i++ {
		s = x.Next(s, int(w[i]))
		rules = append(rules, x.Rule(s))
	}
	return rules
}

// isPair: along is what rulesAlong tells of the second text; the first is its beginning of that many bytes.
func isPair(along []int, first int) bool {
	last := len(along) - 1
	if first >= last || along[last] < 0 || first > 0 && along[first] < 0 {
		return false
	}
	for n := first + 1; n < last; n++ {
		if along[n] >= 0 {
			return false
		}
	}
	return true
}

func checkBounded(t *testing.T, x *munch.Lexer, s string, k int) {
	t.Helper()
	g := x.Gap()
	want := api.Gap{Bounded: true, K: k, From: g.From, To: g.To}
	if g != want || len(g.From) > x.States() || len(g.To)-len(g.From) != k {
		t.Errorf("P6: %q: Gap() = %#v, want K %d; there are %d states", s, g, k, x.States())
		return
	}
	if k == 0 && g.To == "" {
		return
	}
	if !strings.HasPrefix(g.To, g.From) || !isPair(rulesAlong(x, g.To), len(g.From)) {
		t.Errorf("P6: %q: Gap() = %#v: no neighbour pair", s, g)
	}
}

// checkEndless goes the loop more often than there are states: what held till then holds for every number of times.
func checkEndless(t *testing.T, x *munch.Lexer, s string) {
	t.Helper()
	g, n := x.Gap(), x.States()
	want := api.Gap{From: g.From, Lead: g.Lead, Loop: g.Loop, Tail: g.Tail}
	if g != want || g.Loop == "" || g.Tail == "" {
		t.Errorf("P6: %q: Gap() = %#v, want From, Lead, Loop and Tail", s, g)
		return
	}
	if len(g.From) > n || len(g.Lead) > n || len(g.Loop) > n || len(g.Tail) > n {
		t.Errorf("P6: %q: Gap() = %#v: a text has more than %d bytes", s, g, n)
	}
	for i := 0; i <= n+1; i++ {
		v := g.From + g.Lead + strings.Repeat(g.Loop, i) + g.Tail
		if !isPair(rulesAlong(x, v), len(g.From)) {
			t.Errorf("P6: %q: Gap() = %#v: no neighbour pair with the loop %d times", s, g, i)
			return
		}
	}
}

func TestBoundedGaps(t *testing.T) {
	for _, c := range []struct {
		s string
		k int
	}{
		// The document's examples.
		{"a|abc", 2}, {"if\n[a-z]+", 1}, {"[^\\n]?x*", 1}, {"[^\x00-\xff]", 0},
		// No token at all, and steps that lead to none.
		{"a[^\x00-\xff]", 0}, {"(a|b*c)[^\x00-\xff]\n[^\x00-\xff]+", 0}, {"a|ba*[^\x00-\xff]", 1}, {"a|abcd[^\x00-\xff]", 1},
		// The first text is empty, and the greatest number of states.
		{"abc", 3}, {strings.Repeat("ab", 30), 60}, {strings.Repeat(".", 60), 60},
		// The first text is long.
		{"a(a(a(abc)?)?)?", 3}, {"a(a(a(a(a(a(a(a(bcde|c)?)?)?)?)?)?)?)?", 4}, {"[ab]|(aa|bb)b?|aaaaab", 4},
		// Loops through tokens.
		{"a+", 1}, {"(ab?)+", 1}, {"(abc)+", 3}, {"(a|bcd)*", 3}, {"x|(xabcy)+", 5}, {"a|(aab)*", 3},
		// The greatest distance goes through all states: behind the token the empty text's state comes again.
		{"a(ba)*", 2}, {"abc(xabc)*", 4}, {strings.Repeat("a", 29) + "(b" + strings.Repeat("a", 29) + ")*", 30},
		// Tokens of other rules are tokens too.
		{"abc\nab", 2}, {"abc\nab\na", 1}, {"a*b\na*", 1}, {"a*b\na*\na*c", 1}, {"a*bc\na*", 2},
	} {
		checkBounded(t, mustNew(t, c.s), c.s, c.k)
	}
}

func TestEndlessGaps(t *testing.T) {
	for _, s := range []string{
		// The document's examples.
		"a|a*b", "(ab)*c",
		// Loops of several lengths, also through the empty text's state.
		"a*b", "(aaaaaaa)*b", "x|(aaa)*b", "(aa|bbb)*c", "((ab)*c(de)*f)*g", "a(bcdefghij)*k", ".(ab)*.c",
		// Loops far behind the first bytes, behind a token or not.
		"aaaaaaaaaaaaaaab*c", "a?b?c?d?e?f?g?h?(ijk)*l", "a(a(a(a(a(b*c)?)?)?)?)?", "aaaaaaaaaaaaaaa|aaaaaaaaaaaaaaaaaaaab*c",
		// A long way from the loop to the token.
		"a*bcdefghijklmnopqr", "a|(ab)*accccccccccccccccccc",
		// Loops through tokens beside.
		"a+b*\na+c*d", "x+|y*z", "(x|(ab)*c)*",
		strings.Repeat("a", 57) + "b*c", "(" + strings.Repeat("a", 58) + ")*b",
	} {
		checkEndless(t, mustNew(t, s), s)
	}
}

// distances answers the greatest distance of the model's neighbour pairs, -1 if there is none: it goes down from every node from which one can begin.
func (m *model) distances() int {
	known := make([]int, len(m.rule)) // 0 not seen, -1 on the way or endless
	greatest := 0
	for n, rule := range m.rule {
		if n != 0 && rule < 0 {
			continue
		}
		d := m.distanceFrom(n, known)
		if d < 0 {
			return -1
		}
		greatest = max(greatest, d)
	}
	return greatest
}

func (m *model) distanceFrom(n int, known []int) int {
	if known[n] != 0 {
		return known[n]
	}
	known[n] = -1
	greatest := 0
	for _, to := range m.next[n] {
		switch {
		case to < 0 || !m.alive[to]:
		case m.rule[to] >= 0:
			greatest = max(greatest, 1)
		default:
			d := m.distanceFrom(to, known)
			if d < 0 {
				return -1
			}
			greatest = max(greatest, d+1)
		}
	}
	known[n] = greatest
	return greatest
}

func TestRandomGaps(t *testing.T) {
	r := rand.New(rand.NewSource(6))
	endless, bounded := 0, [8]int{}
	for i := 0; i < 1500 && !t.Failed(); i++ {
		rules := randomRules(r)
		s := joined(rules)
		m := newWeb(rules).sets(api.MaxSets)
		if m == nil {
			continue
		}
		x := mustNew(t, s)
		k := m.distances()
		if k < 0 {
			endless++
			checkEndless(t, x, s)
			continue
		}
		bounded[min(k, 7)]++
		checkBounded(t, x, s, k)
	}
	if !t.Failed() && (endless < 100 || bounded[0] < 1 || bounded[1] < 100 || bounded[2] < 100 || bounded[3] < 30) {
		t.Errorf("too few of some kind were tried: %d endless, by distance %v", endless, bounded)
	}
}

// TestGapsOfShortTexts asks the definition of a token itself: no pair of short texts may be farther apart than K.
func TestGapsOfShortTexts(t *testing.T) {
	r := rand.New(rand.NewSource(7))
	for i := 0; i < 150; i++ {
		rules := randomRules(r)
		x, e, _ := munch.New(joined(rules))
		if e == api.ErrStates {
			continue
		}
		g := x.Gap()
		for _, v := range textsUpTo("ab\xff", 5) {
			along := []int{}
			for n := 0; n <= len(v); n++ {
				along = append(along, tokenRule(rules, v[:n]))
			}
			for u := 0; g.Bounded && u < len(v)-g.K; u++ {
				if isPair(along, u) {
					t.Fatalf("P6: %q: Gap() = %#v, but %q and %q are neighbours", joined(rules), g, v[:u], v)
				}
			}
		}
	}
}

func TestGapAgain(t *testing.T) {
	for _, s := range []string{"a|abc", "a|a*b", "(ab)*c|[^\\n]", "[^\x00-\xff]", "[a-c][d-f]|[a-c]", "[a-c]*d|[a-c]"} {
		x := mustNew(t, s)
		g := x.Gap()
		x.Split("abcabd")
		x.Next(0, 'a')
		if again, other := x.Gap(), mustNew(t, s).Gap(); again != g || other != g {
			t.Errorf("P6, P2: %q: Gap() = %#v, then %#v, of another lexer %#v", s, g, again, other)
		}
	}
}
