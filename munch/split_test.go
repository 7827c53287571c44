package munch_test

import (
	"math/rand"
	"slices"
	"strings"
	"testing"

	"munch/api"
	"munch/munch"
)

func wantSplit(t *testing.T, s, input string, want []api.Token) {
	t.Helper()
	x := mustNew(t, s)
	l, e := x.Split(input)
	if e != api.OK || !slices.Equal(l, want) {
		t.Errorf("P5: %q: Split(%.60q) = %v, %d, want %v", s, input, l, e, want)
	}
}

func tokensOf(list [][3]int) []api.Token {
	tokens := []api.Token{}
	for _, l := range list {
		tokens = append(tokens, api.Token{Rule: l[0], From: l[1], To: l[2]})
	}
	return tokens
}

func TestSplit(t *testing.T) {
	for _, c := range []struct {
		s, input string
		want     [][3]int
	}{
		// The document's examples.
		{"a|abc", "abab", [][3]int{{0, 0, 1}, {-1, 1, 2}, {0, 2, 3}, {-1, 3, 4}}},
		{"if\n[a-z]+", "ifs if", [][3]int{{1, 0, 3}, {-1, 3, 4}, {0, 4, 6}}},
		// Nothing to cut, no token at all.
		{"a", "", nil},
		{"a*", "", nil},
		{"[^\x00-\xff]", "", nil},
		{"[^\x00-\xff]", "\x00\xff", [][3]int{{-1, 0, 1}, {-1, 1, 2}}},
		// Of one length the first rule counts, of several the longest token.
		{"a\na", "a", [][3]int{{0, 0, 1}}},
		{"a\naa", "aaa", [][3]int{{1, 0, 2}, {0, 2, 3}}},
		{"aa\na", "aaa", [][3]int{{0, 0, 2}, {1, 2, 3}}},
		// No token is empty.
		{"a*", "b", [][3]int{{-1, 0, 1}}},
		{"a?", "ba", [][3]int{{-1, 0, 1}, {0, 1, 2}}},
		// What was looked at beyond a token is cut once more.
		{"a\naaab", "aaaa", [][3]int{{0, 0, 1}, {0, 1, 2}, {0, 2, 3}, {0, 3, 4}}},
		{"a\naaab", "aaaab", [][3]int{{0, 0, 1}, {1, 1, 5}}},
		{"abc\nb", "abab", [][3]int{{-1, 0, 1}, {1, 1, 2}, {-1, 2, 3}, {1, 3, 4}}},
		// A token that ends where the input does.
		{"ab", "ab", [][3]int{{0, 0, 2}}},
		{"ab", "aba", [][3]int{{0, 0, 2}, {-1, 2, 3}}},
	} {
		wantSplit(t, c.s, c.input, tokensOf(c.want))
	}
}

// cutOf is the cut as the document tells it, every token looked for from the longest on.
func cutOf(rules []*tree, input string) []api.Token {
	tokens := []api.Token{}
	for p := 0; p < len(input); {
		token := api.Token{Rule: api.NoRule, From: p, To: p + 1}
		for q := len(input); q > p; q-- {
			if rule := tokenRule(rules, input[p:q]); rule >= 0 {
				token = api.Token{Rule: rule, From: p, To: q}
				break
			}
		}
		tokens = append(tokens, token)
		p = token.To
	}
	return tokens
}

func TestRandomSplits(t *testing.T) {
	r := rand.New(rand.NewSource(5))
	for i := 0; i < 400 && !t.Failed(); i++ {
		rules := randomRules(r)
		s := joined(rules)
		if _, e, _ := munch.New(s); e == api.ErrStates {
			continue
		}
		for n := 0; n < 10; n++ {
			input := randomInput(r, r.Intn(14))
			wantSplit(t, s, input, cutOf(rules, input))
		}
	}
}

func randomInput(r *rand.Rand, length int) string {
	bytes := []byte{}
	for ; length > 0; length-- {
		bytes = append(bytes, "aaabbbcd-\n\x00\xff"[r.Intn(12)])
	}
	return string(bytes)
}

func TestLongInputs(t *testing.T) {
	for _, c := range []struct {
		s, unit string
		tokens  int
		last    api.Token
	}{
		{"aa", "a", api.MaxInput / 2, api.Token{Rule: 0, From: api.MaxInput - 2, To: api.MaxInput}},
		{"b\n.*", "a", 1, api.Token{Rule: 1, From: 0, To: api.MaxInput}},
		// Here the whole rest is looked at for every token.
		{"a|a*b", "a", api.MaxInput, api.Token{Rule: 0, From: api.MaxInput - 1, To: api.MaxInput}},
		{"(ab)*c", "ab", api.MaxInput, api.Token{Rule: api.NoRule, From: api.MaxInput - 1, To: api.MaxInput}},
		{"[^\x00-\xff]", "\xff", api.MaxInput, api.Token{Rule: api.NoRule, From: api.MaxInput - 1, To: api.MaxInput}},
	} {
		x := mustNew(t, c.s)
		input := strings.Repeat(c.unit, api.MaxInput/len(c.unit))
		l, e := x.Split(input)
		if e != api.OK || len(l) != c.tokens || l[len(l)-1] != c.last {
			t.Errorf("P5: %q: Split of %d bytes: %d tokens, %d, want %d, the last %v", c.s, len(input), len(l), e, c.tokens, c.last)
		}
		for _, more := range []int{1, 2, 4096, 1 << 20} {
			if l, e := x.Split(input + strings.Repeat("a", more)); len(l) != 0 || e != api.ErrRoom {
				t.Errorf("P5: %q: Split of %d bytes: %d tokens, %d, want ErrRoom", c.s, len(input)+more, len(l), e)
			}
		}
	}
}

// TestListsAreTheCallers: P2: what is written into an answer, or into its spare room, is seen nowhere else.
func TestListsAreTheCallers(t *testing.T) {
	x := mustNew(t, "a|abc")
	for n := 0; n < 40; n++ {
		input := strings.Repeat("ab", n)
		first, _ := x.Split(input)
		second, _ := x.Split(input)
		want := slices.Clone(first)
		scribble(first)
		third, _ := x.Split(input)
		if !slices.Equal(second, want) || !slices.Equal(third, want) {
			t.Fatalf("P2: Split(%q) = %v and %v, after an earlier answer was written into; want %v", input, second, third, want)
		}
		scribble(third)
		if !slices.Equal(second, want) {
			t.Fatalf("P2: Split(%q): %v, after a later answer was written into; want %v", input, second, want)
		}
	}
}

func scribble(l []api.Token) {
	whole := l[:cap(l)]
	for i := range whole {
		whole[i] = api.Token{Rule: 9, From: 9, To: 9}
	}
}
