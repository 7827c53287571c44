package munch_test

import (
	"math/rand"
	"slices"
	"strings"
	"testing"
	"unsafe"

	"munch/api"
	"munch/munch"
)

const far = api.MaxOffset

func savedAs(at, end, rule, state int, tail string) api.Saved {
	return api.Saved{At: at, End: end, Rule: rule, State: state, Tail: tail}
}

func wantSave(t *testing.T, s *munch.Stream, want api.Saved) {
	t.Helper()
	v, e := s.Save()
	if e != api.OK || v != want {
		t.Errorf("P10: Save() = %+v, %d, want %+v", v, e, want)
	}
}

func mustResume(t *testing.T, x *munch.Lexer, v api.Saved) *munch.Stream {
	t.Helper()
	s, e := x.Resume(v)
	if s == nil || e != api.OK {
		t.Fatalf("P11: Resume(%+v) = %v, %d, want a stream", v, s != nil, e)
	}
	wantSave(t, s, v)
	return s
}

func wantNotResumed(t *testing.T, x *munch.Lexer, v api.Saved, want api.Errno) {
	t.Helper()
	if s, e := x.Resume(v); s != nil || e != want {
		t.Errorf("P11: Resume(%d, %d, %d, %d, %.60q) = %v, %d, want %d", v.At, v.End, v.Rule, v.State, v.Tail[:min(9, len(v.Tail))], s != nil, e, want)
	}
}

func TestSave(t *testing.T) {
	for _, c := range []struct {
		s      string
		pieces []string
		want   []api.Saved // behind each piece
	}{
		// The document's example.
		{"a|abc", []string{"ab", "a", "bc", "x", "a"}, []api.Saved{savedAs(0, 1, 0, 1, "b"), savedAs(2, 3, 0, 1, ""), savedAs(5, 5, -1, 0, ""), savedAs(6, 6, -1, 0, ""), savedAs(6, 7, 0, 1, "")}},
		// Nothing was fed.
		{"a|abc", []string{"", ""}, []api.Saved{savedAs(0, 0, -1, 0, ""), savedAs(0, 0, -1, 0, "")}},
		// K 0: all is certain at once.
		{"[^\x00-\xff]", []string{"", "a", "bc", ""}, []api.Saved{savedAs(0, 0, -1, 0, ""), savedAs(1, 1, -1, 0, ""), savedAs(3, 3, -1, 0, ""), savedAs(3, 3, -1, 0, "")}},
		// K 1: there is never a Tail. What can't go on is certain.
		{"a\nb", []string{"a", "ba", "x"}, []api.Saved{savedAs(1, 1, -1, 0, ""), savedAs(3, 3, -1, 0, ""), savedAs(4, 4, -1, 0, "")}},
		{"a?a", []string{"a", "a", "aaa"}, []api.Saved{savedAs(0, 1, 0, 1, ""), savedAs(2, 2, -1, 0, ""), savedAs(4, 5, 0, 1, "")}},
		{"if\n[a-z]+", []string{"i", "f", "s", " if", " "}, []api.Saved{savedAs(0, 1, 1, 2, ""), savedAs(0, 2, 0, 3, ""), savedAs(0, 3, 1, 1, ""), savedAs(4, 6, 0, 3, ""), savedAs(7, 7, -1, 0, "")}},
		{".*", []string{"a", "\n\x00", ""}, []api.Saved{savedAs(0, 1, 0, 1, ""), savedAs(0, 3, 0, 1, ""), savedAs(0, 3, 0, 1, "")}},
		// A Tail behind a token, and one where none begins yet.
		{"a\nab\nabcde", []string{"a", "b", "c", "d", "a"}, []api.Saved{savedAs(0, 1, 0, 1, ""), savedAs(0, 2, 1, 2, ""), savedAs(0, 2, 1, 2, "c"), savedAs(0, 2, 1, 2, "cd"), savedAs(4, 5, 0, 1, "")}},
		{"abcd", []string{"xab", "c", "ab", "cd"}, []api.Saved{savedAs(1, 1, -1, 0, "ab"), savedAs(1, 1, -1, 0, "abc"), savedAs(4, 4, -1, 0, "ab"), savedAs(8, 8, -1, 0, "")}},
		{"[0-9]+(\\.[0-9]+)?", []string{"12.", "5", "."}, []api.Saved{savedAs(0, 2, 0, 1, "."), savedAs(0, 4, 0, 3, ""), savedAs(5, 5, -1, 0, "")}},
		// State 0 is that of other texts too, but never of a token.
		{"(ab)*a", []string{"a", "b", "a", "bb"}, []api.Saved{savedAs(0, 1, 0, 1, ""), savedAs(0, 1, 0, 1, "b"), savedAs(0, 3, 0, 1, ""), savedAs(5, 5, -1, 0, "")}},
	} {
		x := mustNew(t, c.s)
		stream := mustOpen(t, x)
		for i, piece := range c.pieces {
			stream.Feed(piece)
			wantSave(t, stream, c.want[i])
			wantSave(t, stream, c.want[i])
			mustResume(t, x, c.want[i])
		}
		stream.Close()
		wantUnsaved(t, stream)
		if t.Failed() {
			t.Fatalf("so with %q", c.s)
		}
	}
}

func wantUnsaved(t *testing.T, s *munch.Stream) {
	t.Helper()
	for n := 0; n < 2; n++ {
		if v, e := s.Save(); v != (api.Saved{}) || e != api.ErrClosed {
			t.Errorf("P10: Save() of a closed stream = %+v, %d, want ErrClosed", v, e)
		}
		wantClosed(t, s)
	}
}

func TestSaveOfClosed(t *testing.T) {
	x := mustNew(t, "a|abc")
	for _, piece := range []string{"", "a", "ab", "abc", "x"} {
		stream := mustOpen(t, x)
		stream.Feed(piece)
		stream.Close()
		wantUnsaved(t, stream)
	}
	stream := mustResume(t, x, savedAs(7, 8, 0, 1, "b"))
	wantClose(t, stream, tokensOf([][3]int{{0, 7, 8}, {-1, 8, 9}}))
	wantUnsaved(t, stream)
}

func TestResume(t *testing.T) {
	for _, c := range []struct {
		s     string
		saved api.Saved
		piece string
		told  [][3]int
		last  [][3]int
	}{
		// The document's example, and other ends of it.
		{"a|abc", savedAs(7, 8, 0, 1, "b"), "c", [][3]int{{0, 7, 10}}, nil},
		{"a|abc", savedAs(7, 8, 0, 1, "b"), "", nil, [][3]int{{0, 7, 8}, {-1, 8, 9}}},
		{"a|abc", savedAs(7, 8, 0, 1, "b"), "ab", [][3]int{{0, 7, 8}, {-1, 8, 9}}, [][3]int{{0, 9, 10}, {-1, 10, 11}}},
		{"a|abc", savedAs(7, 8, 0, 1, ""), "x", [][3]int{{0, 7, 8}, {-1, 8, 9}}, nil},
		{"a|abc", savedAs(7, 7, -1, 0, ""), "abc", [][3]int{{0, 7, 10}}, nil},
		{"a|abc", savedAs(7, 7, -1, 0, ""), "", nil, nil},
		// Of which length a token of the state could be is not asked.
		{"a|abc", savedAs(0, 50, 0, 1, "b"), "c", [][3]int{{0, 0, 52}}, nil},
		{"a|abc", savedAs(0, 50, 0, 1, "b"), "b", [][3]int{{0, 0, 50}, {-1, 50, 51}, {-1, 51, 52}}, nil},
		{"aab?", savedAs(3, 4, 0, 2, ""), "", nil, [][3]int{{0, 3, 4}}},
		{"aab?", savedAs(3, 4, 0, 2, ""), "b", [][3]int{{0, 3, 5}}, nil},
		// K 0 and K 1.
		{"[^\x00-\xff]", savedAs(9, 9, -1, 0, ""), "ab", [][3]int{{-1, 9, 10}, {-1, 10, 11}}, nil},
		{".", savedAs(9, 9, -1, 0, ""), "ab", [][3]int{{0, 9, 10}, {0, 10, 11}}, nil},
		{"if\n[a-z]+", savedAs(2, 4, 0, 3, ""), " ", [][3]int{{0, 2, 4}, {-1, 4, 5}}, nil},
		{"if\n[a-z]+", savedAs(2, 4, 0, 3, ""), "f", nil, [][3]int{{1, 2, 5}}},
		{".*", savedAs(0, 1<<30, 0, 1, ""), "a", nil, [][3]int{{0, 0, 1<<30 + 1}}},
		// A Tail where no token begins yet.
		{"abcd", savedAs(5, 5, -1, 0, "abc"), "d", [][3]int{{0, 5, 9}}, nil},
		{"abcd|b", savedAs(5, 5, -1, 0, "abc"), "", nil, [][3]int{{-1, 5, 6}, {0, 6, 7}, {-1, 7, 8}}},
		{"abcd|b", savedAs(5, 5, -1, 0, "abc"), "abcd", [][3]int{{-1, 5, 6}, {0, 6, 7}, {-1, 7, 8}, {0, 8, 12}}, nil},
		// As far as a stream may go.
		{"a|abc", savedAs(far, far, -1, 0, ""), "", nil, nil},
		{"a|abc", savedAs(far-1, far, 0, 1, ""), "", nil, [][3]int{{0, far - 1, far}}},
		{"a|abc", savedAs(0, far, 0, 1, ""), "", nil, [][3]int{{0, 0, far}}},
		{"a|abc", savedAs(far-2, far-1, 0, 1, "b"), "", nil, [][3]int{{0, far - 2, far - 1}, {-1, far - 1, far}}},
		{"abcd", savedAs(far-3, far-3, -1, 0, "abc"), "", nil, [][3]int{{-1, far - 3, far - 2}, {-1, far - 2, far - 1}, {-1, far - 1, far}}},
	} {
		stream := mustResume(t, mustNew(t, c.s), c.saved)
		wantFeed(t, stream, "", nil)
		wantSave(t, stream, c.saved)
		wantFeed(t, stream, c.piece, tokensOf(c.told))
		wantClose(t, stream, tokensOf(c.last))
		wantUnsaved(t, stream)
		if t.Failed() {
			t.Fatalf("so with %q, %+v, %q", c.s, c.saved, c.piece)
		}
	}
}

func TestNotResumed(t *testing.T) {
	const most, least = 1<<63 - 1, -1 << 63
	for _, c := range []struct {
		s     string
		saved []api.Saved
	}{
		// The document's examples: a token that would be certain, and a Tail that leads over one.
		{"a|abc", []api.Saved{savedAs(7, 8, 0, 3, ""), savedAs(7, 10, 0, 3, ""), savedAs(7, 8, 0, 1, "bc")}},
		// Places out of order, or out of room.
		{"a|abc", []api.Saved{savedAs(-1, -1, -1, 0, ""), savedAs(-1, 0, 0, 1, ""), savedAs(-1, 5, 0, 1, "b"), savedAs(least, least, -1, 0, ""), savedAs(least, most, 0, 1, "b")}},
		{"a|abc", []api.Saved{savedAs(8, 7, 0, 1, ""), savedAs(8, 7, -1, 0, ""), savedAs(8, 7, 0, 1, "b"), savedAs(8, -8, 0, 1, ""), savedAs(most, least, 0, 1, "")}},
		{"a|abc", []api.Saved{savedAs(far+1, far+1, -1, 0, ""), savedAs(far, far+1, 0, 1, ""), savedAs(0, far+1, 0, 1, ""), savedAs(0, far, 0, 1, "b"), savedAs(far-1, far, 0, 1, "b")}},
		{"a|abc", []api.Saved{savedAs(most, most, -1, 0, ""), savedAs(0, most, 0, 1, "b"), savedAs(0, most, 0, 1, ""), savedAs(most-1, most, 0, 1, "b")}},
		{"abcd", []api.Saved{savedAs(far, far, -1, 0, "a"), savedAs(far-2, far-2, -1, 0, "abc"), savedAs(most, most, -1, 0, "abc"), savedAs(most-2, most-2, -1, 0, "abc")}},
		{"abcd", []api.Saved{savedAs(0, 0, -1, 0, longText(far+1)), savedAs(far, far, -1, 0, longText(far)), savedAs(far-5, far-5, -1, 0, longText(6))}},
		// No byte, but a token.
		{"a|abc", []api.Saved{savedAs(7, 7, 0, 1, ""), savedAs(7, 7, 0, 0, ""), savedAs(7, 7, -1, 1, ""), savedAs(7, 7, -1, 2, ""), savedAs(7, 7, -1, -1, ""), savedAs(7, 7, -2, 0, ""), savedAs(7, 7, 0, 1, "b"), savedAs(0, 0, -1, 1, "b"), {}}},
		// A token that is none, of no state, or of another rule.
		{"a|abc", []api.Saved{savedAs(7, 8, -1, 0, ""), savedAs(7, 8, -1, 2, ""), savedAs(7, 8, 0, 2, ""), savedAs(7, 8, 0, 0, ""), savedAs(7, 9, -1, 2, "b"), savedAs(7, 8, -1, 0, "a")}},
		{"a|abc", []api.Saved{savedAs(7, 8, 0, -1, ""), savedAs(7, 8, -1, -1, ""), savedAs(7, 8, 0, 4, ""), savedAs(7, 8, -1, 4, ""), savedAs(7, 8, 0, most, ""), savedAs(7, 8, -1, most, ""), savedAs(7, 8, 0, least, ""), savedAs(7, 8, 0, 1<<32+1, "b")}},
		{"a|abc", []api.Saved{savedAs(7, 8, -1, 1, ""), savedAs(7, 8, 1, 1, ""), savedAs(7, 8, -2, 1, "b"), savedAs(7, 8, most, 1, "b"), savedAs(7, 8, least, 1, "b")}},
		{"if\n[a-z]+", []api.Saved{savedAs(2, 4, 1, 3, ""), savedAs(2, 4, 0, 2, ""), savedAs(2, 4, 0, 1, ""), savedAs(2, 4, 2, 3, "")}},
		// A Tail that is not alive, at its first byte or at a later one.
		{"a|abc", []api.Saved{savedAs(7, 8, 0, 1, "x"), savedAs(7, 8, 0, 1, "bb"), savedAs(7, 8, 0, 1, "bx"), savedAs(7, 8, 0, 1, "\x00"), savedAs(7, 8, 0, 3, "a"), savedAs(7, 7, -1, 0, "x"), savedAs(7, 7, -1, 0, "b")}},
		{"abcd", []api.Saved{savedAs(5, 5, -1, 0, "b"), savedAs(5, 5, -1, 0, "abx"), savedAs(5, 5, -1, 0, "xabc"), savedAs(5, 5, -1, 0, strings.Repeat("abc", 99))}},
		// A Tail that leads over a token, at its end or ahead of it.
		{"a|abc", []api.Saved{savedAs(7, 7, -1, 0, "a"), savedAs(7, 7, -1, 0, "ab"), savedAs(7, 7, -1, 0, "abc"), savedAs(7, 8, 0, 1, "bca")}},
		{"abcd", []api.Saved{savedAs(5, 5, -1, 0, "abcd"), savedAs(5, 5, -1, 0, "abcda")}},
		{"a\nab\nabcde", []api.Saved{savedAs(5, 6, 0, 1, "b"), savedAs(5, 6, 0, 1, "bc"), savedAs(5, 6, 0, 1, "bcd")}},
		{"(ab)*a", []api.Saved{savedAs(0, 1, 0, 1, "ba"), savedAs(0, 1, 0, 1, "bab"), savedAs(0, 2, -1, 0, ""), savedAs(0, 2, 0, 0, "")}},
		// K 0 and K 1: no Tail at all, and no token that can't go on.
		{"[^\x00-\xff]", []api.Saved{savedAs(0, 0, -1, 0, "x"), savedAs(0, 1, -1, 0, ""), savedAs(0, 1, 0, 0, ""), savedAs(0, 1, 0, 1, ""), savedAs(0, 0, -1, 1, "")}},
		{".", []api.Saved{savedAs(0, 1, 0, 1, ""), savedAs(0, 1, 0, 1, "a"), savedAs(0, 0, -1, 0, "a")}},
		{".*", []api.Saved{savedAs(0, 1, 0, 1, "a"), savedAs(0, 0, -1, 0, "a"), savedAs(0, 0, -1, 0, longText(far))}},
		{"if\n[a-z]+", []api.Saved{savedAs(2, 4, 0, 3, "f"), savedAs(2, 4, 0, 3, " "), savedAs(2, 2, -1, 0, "i")}},
	} {
		x := mustNew(t, c.s)
		for _, v := range c.saved {
			wantNotResumed(t, x, v, api.ErrSaved)
		}
		if t.Failed() {
			t.Fatalf("so with %q", c.s)
		}
	}
}

// TestNoGap: of two errors the one that is named first.
func TestNoGap(t *testing.T) {
	for _, s := range []string{"a|a*b", "(ab)*c", "\"[^\"]*\"", "a(.*b)?"} {
		x := mustNew(t, s)
		for _, v := range []api.Saved{savedAs(0, 0, -1, 0, ""), savedAs(0, 1, 0, 1, ""), savedAs(0, 1, 0, 1, "a"), savedAs(-1, -2, 5, 9, "x"), savedAs(0, 0, -1, 0, longText(far+1)), {}} {
			wantNotResumed(t, x, v, api.ErrGap)
		}
	}
}

// TestLastBytes: the last bytes that a stream takes. No test can feed all those ahead of them, but what was saved may stand there.
func TestLastBytes(t *testing.T) {
	stream := mustResume(t, mustNew(t, "a|abc"), savedAs(far-4, far-3, 0, 1, "b"))
	for _, c := range []struct {
		piece string
		e     api.Errno
		want  [][3]int
		saved api.Saved
	}{
		{"cab", api.ErrRoom, nil, savedAs(far-4, far-3, 0, 1, "b")},
		{"", api.OK, nil, savedAs(far-4, far-3, 0, 1, "b")},
		{"caba", api.ErrRoom, nil, savedAs(far-4, far-3, 0, 1, "b")},
		{longText(far), api.ErrRoom, nil, savedAs(far-4, far-3, 0, 1, "b")},
		{"ca", api.OK, [][3]int{{0, far - 4, far - 1}}, savedAs(far-1, far, 0, 1, "")},
		{"b", api.ErrRoom, nil, savedAs(far-1, far, 0, 1, "")},
		{"", api.OK, nil, savedAs(far-1, far, 0, 1, "")},
	} {
		l, e := stream.Feed(c.piece)
		if e != c.e || !slices.Equal(l, tokensOf(c.want)) || e != api.OK && l != nil {
			t.Errorf("P8: Feed of %d bytes = %v, %d, want %v, %d", len(c.piece), l, e, c.want, c.e)
		}
		wantSave(t, stream, c.saved)
	}
	wantClose(t, stream, tokensOf([][3]int{{0, far - 1, far}}))
	wantUnsaved(t, stream)
}

// TestSavedAnywhere: an input in all pieces that there are, saved and resumed between each two, by its lexer and by another one of the same rules.
func TestSavedAnywhere(t *testing.T) {
	for _, c := range []struct{ s, input string }{
		{"a|abc", "ababcab"}, {"a\nab\nabcd", "abcabcda"}, {"abcd|b", "abcabcd"}, {"if\n[a-z]+", "ifs if i"}, {"[^\x00-\xff]", "abcd"}, {".*", "abcdef"},
		{"a|aaaab", "aaaaaab"}, {"(ab)*a", "ababba"},
	} {
		lexers := []*munch.Lexer{mustNew(t, c.s), mustNew(t, c.s)}
		want, _ := lexers[0].Split(c.input)
		for ends := 0; ends < 1<<len(c.input); ends++ {
			stream, first := mustOpen(t, lexers[0]), mustOpen(t, lexers[0])
			all, begin := []api.Token{}, 0
			for i := range c.input {
				if ends>>i&1 == 0 {
					continue
				}
				l, _ := first.Feed(c.input[begin:i])
				wantFeed(t, stream, c.input[begin:i], l)
				all = append(all, l...)
				begin = i
				v, _ := first.Save()
				stream = mustResume(t, lexers[i%2], v)
				v, _ = stream.Save()
				stream = mustResume(t, lexers[1-i%2], v)
			}
			all = feedSome(t, stream, c.input[begin:], all)
			l, _ := stream.Close()
			if all = append(all, l...); !slices.Equal(all, want) || t.Failed() {
				t.Fatalf("P12: %q: %q, saved and resumed in the places %b: %v, want %v", c.s, c.input, ends, all, want)
			}
		}
	}
}

func stateAlong(x *munch.Lexer, w string) int {
	s := 0
	for i := 0; i < len(w); i++ {
		s = x.Next(s, int(w[i]))
	}
	return s
}

// standOf is what the document says that Save answers, of an input of which these tokens are certain.
func standOf(rules []*tree, x *munch.Lexer, input string, certain []api.Token) api.Saved {
	v := api.Saved{Rule: api.NoRule}
	if len(certain) > 0 {
		v.At = certain[len(certain)-1].To
	}
	v.End = v.At
	for q := v.At + 1; q <= len(input); q++ {
		if rule := tokenRule(rules, input[v.At:q]); rule >= 0 {
			v.End, v.Rule, v.State = q, rule, stateAlong(x, input[v.At:q])
		}
	}
	v.Tail = input[v.End:]
	return v
}

// bounded makes random rules that can be opened.
func bounded(t *testing.T, r *rand.Rand) ([]*tree, *munch.Lexer, *model) {
	t.Helper()
	for {
		rules := randomRules(r)
		x, e, _ := munch.New(joined(rules))
		if e == api.OK && x.Gap().Bounded {
			return rules, x, newWeb(rules).sets(api.MaxSets)
		}
	}
}

func TestRandomSaves(t *testing.T) {
	r := rand.New(rand.NewSource(10))
	apart, tails := 0, 0
	for i := 0; i < 500 && !t.Failed(); i++ {
		rules, x, m := bounded(t, r)
		if x.Gap().K > 1 {
			apart++
		}
		for n := 0; n < 5; n++ {
			tails += checkSaves(t, r, rules, x, m)
		}
	}
	if apart < 100 || tails < 200 {
		t.Errorf("only %d rule texts have K above 1, only %d times there was a Tail", apart, tails)
	}
}

// checkSaves feeds a stream that is never saved, and one that is saved behind every piece and often resumed. It answers how often there was a Tail.
func checkSaves(t *testing.T, r *rand.Rand, rules []*tree, x *munch.Lexer, m *model) int {
	t.Helper()
	k, tails := x.Gap().K, 0
	lexers := []*munch.Lexer{x, mustNew(t, joined(rules))}
	input := randomInput(r, r.Intn(16))
	stream, first := mustOpen(t, x), mustOpen(t, x)
	for at := 0; at < len(input); {
		n := r.Intn(min(4, len(input)-at+1))
		l, _ := first.Feed(input[at : at+n])
		wantFeed(t, stream, input[at:at+n], l)
		at += n
		certain := m.certainOf(input[:at], cutOf(rules, input[:at]))
		want := standOf(rules, x, input[:at], certain)
		wantSave(t, stream, want)
		if len(want.Tail) > max(0, k-1) || t.Failed() {
			t.Fatalf("P10, P12: %q: %q, %d bytes of it fed, K being %d", joined(rules), input, at, k)
		}
		if want.Tail != "" {
			tails++
		}
		for ; r.Intn(2) == 0; stream = mustResume(t, lexers[r.Intn(2)], want) {
		}
	}
	l, _ := first.Close()
	wantClose(t, stream, l)
	wantUnsaved(t, stream)
	return tails
}

// earliest is of every state its earliest text.
func earliest(x *munch.Lexer) []string {
	texts := []string{""}
	for s := 0; s < len(texts); s++ {
		for b := 0; b < 256; b++ {
			if x.Next(s, b) == len(texts) {
				texts = append(texts, texts[s]+string([]byte{byte(b)}))
			}
		}
	}
	return texts
}

// find is the node of a text, -1 if it is not alive.
func (m *model) find(w string) int {
	node := 0
	for i := 0; i < len(w) && node >= 0; i++ {
		node = m.next[node][w[i]]
	}
	if w != "" && node >= 0 && !m.alive[node] {
		return -1
	}
	return node
}

func (m *model) goesOn(node int) bool {
	for _, to := range m.next[node] {
		if to >= 0 && m.alive[to] {
			return true
		}
	}
	return false
}

// mayResume is what the document asks of what was saved, as long as no number is very great.
func (m *model) mayResume(texts []string, v api.Saved) bool {
	if v.At < 0 || v.End < v.At || v.End+len(v.Tail) > api.MaxOffset || v.State < 0 || v.State >= len(texts) {
		return false
	}
	w := texts[v.State]
	if v.End == v.At && (v.Rule != api.NoRule || v.State != 0) {
		return false
	}
	if v.End > v.At && (v.State == 0 || m.rule[m.find(w)] == api.NoRule || m.rule[m.find(w)] != v.Rule) {
		return false
	}
	for i := range v.Tail {
		if node := m.find(w + v.Tail[:i+1]); node < 0 || m.rule[node] != api.NoRule {
			return false
		}
	}
	return v.Tail != "" || v.End == v.At || m.goesOn(m.find(w))
}

// turned is something else than what was saved, or the same by chance.
func turned(r *rand.Rand, x *munch.Lexer, v api.Saved) api.Saved {
	switch r.Intn(9) {
	case 0:
		v.At += r.Intn(5) - 2
	case 1:
		v.End += r.Intn(5) - 2
	case 2:
		v.Rule = r.Intn(5) - 2
	case 3:
		v.State = r.Intn(x.States()+2) - 1
	case 4:
		v.State = r.Intn(x.States())
		v.Rule = x.Rule(v.State)
		v.End = v.At + r.Intn(3)
	case 5:
		v.Tail += randomInput(r, 1+r.Intn(2))
	case 6:
		v.Tail = v.Tail[:r.Intn(len(v.Tail)+1)]
	case 7:
		v.Tail = randomInput(r, r.Intn(3))
	default:
		v.End += api.MaxOffset - v.End - len(v.Tail) + r.Intn(3) - 1
		if v.Rule == api.NoRule {
			v.At = v.End
		}
	}
	return v
}

// TestTurnedSaves: what was saved, turned into something else, is refused or resumed as the document says.
func TestTurnedSaves(t *testing.T) {
	r := rand.New(rand.NewSource(11))
	resumed, refused, tails := 0, 0, 0
	for i := 0; i < 600 && !t.Failed(); i++ {
		rules, x, m := bounded(t, r)
		texts := earliest(x)
		for n := 0; n < 20; n++ {
			stream := mustOpen(t, x)
			stream.Feed(randomInput(r, r.Intn(6)))
			v, _ := stream.Save()
			for turns := 1 + r.Intn(3); turns > 0; turns-- {
				v = turned(r, x, v)
			}
			if !m.mayResume(texts, v) {
				wantNotResumed(t, x, v, api.ErrSaved)
				refused++
				continue
			}
			checkResumed(t, r, rules, x, m, v, texts[v.State])
			resumed++
			if v.Tail != "" {
				tails++
			}
		}
		if t.Failed() {
			t.Fatalf("so with %q", joined(rules))
		}
	}
	if resumed < 1000 || refused < 1000 || tails < 100 {
		t.Errorf("only %d were resumed, %d of them with a Tail, and %d refused", resumed, tails, refused)
	}
}

// checkResumed feeds what was resumed, and holds the answers against those of w, a text of the state, and the Tail.
func checkResumed(t *testing.T, r *rand.Rand, rules []*tree, x *munch.Lexer, m *model, v api.Saved, w string) {
	t.Helper()
	stream := mustResume(t, x, v)
	input, told := w+v.Tail, 0
	moved := func(p int) int {
		if p < len(w) {
			return v.At // no other place there begins or ends a token
		}
		return v.End + p - len(w)
	}
	movedAll := func(tokens []api.Token) []api.Token {
		list := []api.Token{}
		for _, token := range tokens {
			list = append(list, api.Token{Rule: token.Rule, From: moved(token.From), To: moved(token.To)})
		}
		return list
	}
	for n := r.Intn(4); n > 0; n-- {
		piece := randomInput(r, r.Intn(3))
		if moved(len(input))+len(piece) > api.MaxOffset {
			if l, e := stream.Feed(piece); l != nil || e != api.ErrRoom {
				t.Errorf("P8: Feed(%q) = %v, %d, want ErrRoom", piece, l, e)
			}
			continue
		}
		input += piece
		certain := m.certainOf(input, cutOf(rules, input))
		wantFeed(t, stream, piece, movedAll(certain[told:]))
		told = len(certain)
		want := standOf(rules, x, input, certain)
		want.At, want.End = moved(want.At), moved(want.End)
		wantSave(t, stream, want)
	}
	wantClose(t, stream, movedAll(cutOf(rules, input)[told:]))
	if t.Failed() {
		t.Fatalf("so with %+v, and %q in all", v, input)
	}
}

// TestSavedStandsAlone: P2: a stream hangs neither on others that were resumed from the same, nor on what becomes of what was saved.
func TestSavedStandsAlone(t *testing.T) {
	x := mustNew(t, "a|abc")
	first := mustOpen(t, x)
	first.Feed("xab")
	v, _ := first.Save()
	kept := v
	second, third := mustResume(t, x, v), mustResume(t, x, v)
	v = api.Saved{At: 9, End: 9, Rule: 9, State: 9, Tail: "9"}
	wantFeed(t, second, "c", tokensOf([][3]int{{0, 1, 4}}))
	wantSave(t, first, kept)
	wantSave(t, third, kept)
	wantFeed(t, first, "a", tokensOf([][3]int{{0, 1, 2}, {-1, 2, 3}}))
	wantSave(t, first, savedAs(3, 4, 0, 1, ""))
	wantSave(t, second, savedAs(4, 4, -1, 0, ""))
	wantSave(t, third, kept)
	wantClose(t, first, tokensOf([][3]int{{0, 3, 4}}))
	wantClose(t, third, tokensOf([][3]int{{0, 1, 2}, {-1, 2, 3}}))
	wantFeed(t, second, "a", nil)
	wantFeed(t, mustResume(t, x, kept), "c", tokensOf([][3]int{{0, 1, 4}}))
	if kept != savedAs(1, 2, 0, 1, "b") || v.Tail != "9" {
		t.Errorf("P2: what was saved became %+v, %+v", kept, v)
	}
}

// TestSavedTextIsNotKept: a caller may write over the memory of the Tail.
func TestSavedTextIsNotKept(t *testing.T) {
	memory := []byte("abc")
	stream := mustResume(t, mustNew(t, "abcde"), savedAs(5, 5, -1, 0, unsafe.String(&memory[0], 3)))
	copy(memory, "!!!")
	wantSave(t, stream, savedAs(5, 5, -1, 0, "abc"))
	wantFeed(t, stream, "d", nil)
	wantFeed(t, stream, "e", tokensOf([][3]int{{0, 5, 10}}))
}
