package munch_test

import (
	"math/rand"
	"strings"
	"testing"

	"munch/api"
	"munch/munch"
)

func wantSyntax(t *testing.T, s string, place int) {
	t.Helper()
	x, e, at := munch.New(s)
	if x != nil || e != api.ErrSyntax || at != place {
		t.Errorf("P3: New(%q) = %v, %d, %d, want ErrSyntax at %d", s, x != nil, e, at, place)
	}
}

func wantError(t *testing.T, s string, want api.Errno) {
	t.Helper()
	x, e, at := munch.New(s)
	if x != nil || e != want || at != 0 {
		t.Errorf("P3: New(%.50q) of %d bytes = %v, %d, %d, want nil, %d, 0", s, len(s), x != nil, e, at, want)
	}
}

func mustNew(t *testing.T, s string) *munch.Lexer {
	t.Helper()
	x, e, at := munch.New(s)
	if x == nil || e != api.OK || at != 0 {
		t.Fatalf("P3: New(%q) = %v, %d, %d, want a lexer", s, x != nil, e, at)
	}
	return x
}

func TestPlacesOfFaults(t *testing.T) {
	for _, c := range []struct {
		s  string
		at int
	}{
		// The document's examples.
		{"", 0}, {"a|", 2}, {"(a", 2}, {"a)", 1}, {"a**", 2}, {"[]", 1}, {"[b-a]", 3}, {"a\n", 2}, {"[^-a]", 2}, {"a\\", 2},
		// Newlines stand between rules alone.
		{"\na", 0}, {"a\n\nb", 2}, {"(a\n)", 2}, {"[\n]", 1}, {"[a-\n]", 3}, {"\\\n", 1}, {"a|\nb", 2},
		// Behind a backslash the range is still open.
		{"[b-\\", 4}, {"[b-\\a]", 4}, {"[\xff-\\\xfe]", 4}, {"[\x0b-\\n]", 4}, {"[\\]-[]", 4},
		// Two bounds of one range are no first bound of another.
		{"[a-b-c]", 4}, {"[a-]", 3}, {"[a--]", 3}, {"[-]", 1}, {"[^]", 2}, {"[^^", 3},
		// The first fault counts, not one behind it.
		{"a)(", 1}, {"*(\n", 0}, {"a\nb**\n", 4},
	} {
		wantSyntax(t, c.s, c.at)
	}
}

func TestTextsWithoutFault(t *testing.T) {
	for _, s := range []string{
		"-", "^", "^*", "[^^]", "[a^]", "[[]", "[\\]]", "[\\^a]", "[a-a]", "[\\n-\\n]", "[\x00-\xff]", "\\n*", "\\\\",
		"((a|b)*|c+)?\n.", "[A-^]", "[\x00-\\n]", "a\nb\nc", strings.Repeat("a\n", 59) + "a",
		strings.Repeat("(", 59) + "ab" + strings.Repeat(")", 59),
	} {
		mustNew(t, s)
	}
}

func TestEveryShortText(t *testing.T) {
	checkFrom(t, "", "abn|*().[]^-\\\n", 4)
	checkFrom(t, "", "a|+()\n", 6)
	checkFrom(t, "[", "ab]^-\\\n", 5)
	checkFrom(t, "(b?[^", "na]-\\)\x05", 4)
}

// checkFrom checks s and what begins with it, more bytes behind: as long as rule texts go on so.
func checkFrom(t *testing.T, s, bytes string, more int) {
	t.Helper()
	if t.Failed() {
		return
	}
	switch {
	case !beginsRuleText(s):
		wantSyntax(t, s, len(s)-1)
		wantSyntax(t, s+"a", len(s)-1)
		wantSyntax(t, s+"\n])", len(s)-1)
		return
	case isRuleText(s):
		mustNew(t, s)
	default:
		wantSyntax(t, s, len(s))
	}
	for i := 0; more > 0 && i < len(bytes); i++ {
		checkFrom(t, s+bytes[i:i+1], bytes, more-1)
	}
}

func TestLong(t *testing.T) {
	wantError(t, strings.Repeat("a", 121), api.ErrLong)
	wantError(t, strings.Repeat("a", 1<<20), api.ErrLong)
	wantSyntax(t, strings.Repeat("(", 120), 120)
	mustNew(t, "["+strings.Repeat("a", 118)+"]")
}

func TestFirstErrorCounts(t *testing.T) {
	wantError(t, strings.Repeat("*", 121), api.ErrLong)
	wantError(t, strings.Repeat("ab", 61), api.ErrLong)
	wantSyntax(t, strings.Repeat("ab", 59)+")", 118)
}

func TestNumberOfSets(t *testing.T) {
	nothing := "[^\x00-\xff]"
	for _, c := range []struct {
		s      string
		states int
	}{
		{strings.Repeat("a", 60), 61},
		{strings.Repeat("a?", 60), 61},
		// Many places of few sets.
		{strings.Repeat("a", 59) + "\n" + strings.Repeat("a", 60), 61},
		{strings.Repeat("a|", 59) + "a", 2},
		// Sets count though their texts are not alive, or alike.
		{strings.Repeat("a", 60) + nothing, 1},
		{strings.Repeat("a", 60) + nothing + "*", 61},
		{"(a|b|c|d|e|f|g|h|i|j)+", 2},
		{"(a*b*c*d*e*f*g*h*i*j*k*l*m*n*o*p*q*r*s*t*u*v*w*x*y*z*)*", 2},
	} {
		x := mustNew(t, c.s)
		if n := x.States(); n != c.states {
			t.Errorf("P4: %q: States() = %d, want %d", c.s, n, c.states)
		}
	}
	for _, s := range []string{
		strings.Repeat("a", 61), strings.Repeat("a", 61) + nothing, strings.Repeat("a", 61) + "*", strings.Repeat("a", 120),
		strings.Repeat("a?", 30) + "\n" + strings.Repeat("b", 31), "(a|b)*a" + strings.Repeat("(a|b)", 6), "(a|b)*a" + strings.Repeat(".", 100),
	} {
		wantError(t, s, api.ErrStates)
	}
	mustNew(t, strings.Repeat("a?", 30)+"\n"+strings.Repeat("b", 30))
}

func TestSetsOfRandomRules(t *testing.T) {
	r := rand.New(rand.NewSource(3))
	tooMany := 0
	for i := 0; i < 400; i++ {
		rules := []*tree{randomTree(r, 5), randomTree(r, 5)}
		s := joined(rules)
		if len(s) > api.MaxText {
			wantError(t, s, api.ErrLong)
			continue
		}
		if newWeb(rules).sets(api.MaxSets) == nil {
			tooMany++
			wantError(t, s, api.ErrStates)
		} else {
			mustNew(t, s)
		}
	}
	if tooMany == 0 {
		t.Errorf("no rule text had too many sets")
	}
}
