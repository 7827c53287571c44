package munch_test

import (
	"math/rand"
	"slices"
	"strings"
	"testing"

	"munch/api"
	"munch/munch"
)

// TestAnyText: P1 at texts that no one would write. An answer that is neither a lexer nor an error, or both, is a fault too.
func TestAnyText(t *testing.T) {
	r := rand.New(rand.NewSource(4))
	for i := 0; i < 20000; i++ {
		s := randomText(r)
		x, e, at := munch.New(s)
		switch {
		case e == api.OK:
			if x == nil || at != 0 || !isRuleText(s) {
				t.Fatalf("P1, P3: New(%q) = %v, OK, %d", s, x != nil, at)
			}
			useAll(t, x)
		case x != nil || e < 0 || e > api.ErrStates:
			t.Fatalf("P1: New(%q) = %v, %d", s, x != nil, e)
		case e == api.ErrSyntax:
			if isRuleText(s) || !isPlaceOfFault(s, at) {
				t.Fatalf("P3: New(%q): ErrSyntax at %d", s, at)
			}
		case at != 0 || (e == api.ErrLong) != (len(s) > api.MaxText):
			t.Fatalf("P3: New(%q) = nil, %d, %d", s, e, at)
		}
	}
}

func isPlaceOfFault(s string, at int) bool {
	if at < 0 || at > len(s) || !beginsRuleText(s[:at]) {
		return false
	}
	return at == len(s) || !beginsRuleText(s[:at+1])
}

func randomText(r *rand.Rand) string {
	bytes := []byte{}
	for n := r.Intn(20); n > 0; n-- {
		switch r.Intn(8) {
		case 0:
			bytes = append(bytes, byte(r.Intn(256)))
		case 1, 2:
			bytes = append(bytes, specials[r.Intn(len(specials))])
		default:
			bytes = append(bytes, "ab-^*|"[r.Intn(6)])
		}
	}
	return strings.Repeat(string(bytes), 1+r.Intn(8))
}

func useAll(t *testing.T, x *munch.Lexer) {
	t.Helper()
	x.Gap()
	for _, input := range []string{"", "ab-^*|\n", "\x00\xff\x80", strings.Repeat("ab", 40)} {
		x.Split(input)
	}
	for s := -2; s < x.States()+2; s++ {
		x.Rule(s)
		for b := -2; b < 258; b++ {
			x.Next(s, b)
		}
	}
	if s, _ := x.Open(); s != nil {
		for _, piece := range []string{"", "a", "b-^*|\n", "", "\x00\xff\x80", strings.Repeat("ab", 40)} {
			s.Feed(piece)
			s.Save()
		}
		s.Close()
		s.Feed("a")
		s.Close()
		s.Save()
	}
	resumeAll(t, x)
}

// resumeAll: P1 at what was never saved.
func resumeAll(t *testing.T, x *munch.Lexer) {
	t.Helper()
	const most, least = 1<<63 - 1, -1 << 63
	for state := -1; state <= min(4, x.States()); state++ {
		for _, v := range []api.Saved{
			{}, {Rule: api.NoRule}, {At: least, End: most, Rule: x.Rule(state), State: state, Tail: "a"}, {At: most, End: most, Rule: api.NoRule, Tail: "a"}, {At: most, End: least},
			{Rule: most, State: most}, {End: 1, Rule: least, State: least}, {End: 1, Rule: api.NoRule, State: state}, {End: 1, Rule: x.Rule(state), State: state},
			{End: 1, Rule: x.Rule(state), State: state, Tail: "a"}, {Rule: api.NoRule, Tail: "ab\x00\xff"}, {End: api.MaxOffset, Rule: x.Rule(state), State: state},
		} {
			s, e := x.Resume(v)
			if (s == nil) == (e == api.OK) {
				t.Fatalf("P1: Resume(%+v) = %v, %d", v, s != nil, e)
			}
			if s != nil {
				s.Feed("ab")
				s.Save()
				s.Close()
			}
		}
	}
}

func TestDeepAndWide(t *testing.T) {
	for _, s := range []string{
		strings.Repeat("(", 40) + "a" + strings.Repeat("*)", 39) + ")",
		strings.Repeat("(", 39) + "a" + strings.Repeat(")+", 39),
		"(" + strings.Repeat("a*", 57) + ")*",
		strings.Repeat(".*\n", 39) + ".*",
		strings.Repeat("(a?", 29) + strings.Repeat(")*", 15),
	} {
		x, e, _ := munch.New(s)
		if (x == nil) != (e != api.OK) {
			t.Errorf("P1: New(%q) = %v, %d", s, x != nil, e)
		}
		if x != nil {
			useAll(t, x)
		}
	}
}

type answers struct {
	states int
	rules  []int
	next   []int
	tokens []api.Token
	gap    api.Gap
	opens  bool
	told   []api.Token
	saved  []api.Saved
}

func allAnswers(x *munch.Lexer) answers {
	a := answers{states: x.States(), gap: x.Gap()}
	for s := -1; s <= a.states; s++ {
		a.rules = append(a.rules, x.Rule(s))
		for b := -1; b <= 256; b++ {
			a.next = append(a.next, x.Next(s, b))
		}
	}
	for _, input := range []string{"", "abcab", "ifs if", "aaab", "ababc\n", "\n\x00\xff"} {
		l, _ := x.Split(input)
		a.tokens = append(a.tokens, l...)
	}
	s, _ := x.Open()
	a.opens = s != nil
	for _, piece := range []string{"", "ab", "cab", "ifs if", "\n\x00\xff", "aaab", "a"} {
		if a.opens {
			l, _ := s.Feed(piece)
			a.told = append(a.told, l...)
			v, _ := s.Save()
			a.saved = append(a.saved, v)
			s, _ = x.Resume(v)
		}
	}
	if a.opens {
		l, _ := s.Close()
		a.told = append(a.told, l...)
	}
	return a
}

func same(a, b answers) bool {
	return a.states == b.states && a.gap == b.gap && slices.Equal(a.rules, b.rules) && slices.Equal(a.next, b.next) && slices.Equal(a.tokens, b.tokens) && a.opens == b.opens && slices.Equal(a.told, b.told) && slices.Equal(a.saved, b.saved)
}

// TestLexersStandAlone: P2: what a lexer answers hangs neither on other lexers nor on what was asked before.
func TestLexersStandAlone(t *testing.T) {
	texts := []string{"a|abc", "if\n[a-z]+", "a|a*b", "(ab)*c", "[^\\n]?x*", "[^\x00-\xff]", strings.Repeat("ab", 30)}
	lexers, first := []*munch.Lexer{}, []answers{}
	for _, s := range texts {
		x := mustNew(t, s)
		lexers = append(lexers, x)
		first = append(first, allAnswers(x))
	}
	for i := len(texts) - 1; i >= 0; i-- {
		wantSyntax(t, texts[i]+"\n*", len(texts[i])+1)
		again := mustNew(t, texts[i])
		if !same(allAnswers(again), first[i]) || !same(allAnswers(lexers[i]), first[i]) {
			t.Errorf("P2: %q: the answers are others the second time", texts[i])
		}
	}
}
