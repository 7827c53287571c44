package munch_test

import (
	"math/rand"
	"slices"
	"strings"
	"testing"
	"unsafe"

	"munch/api"
	"munch/munch"
)

func mustOpen(t *testing.T, x *munch.Lexer) *munch.Stream {
	t.Helper()
	s, e := x.Open()
	if s == nil || e != api.OK {
		t.Fatalf("P7: Open() = %v, %d, want a stream", s != nil, e)
	}
	return s
}

func wantFeed(t *testing.T, s *munch.Stream, piece string, want []api.Token) {
	t.Helper()
	l, e := s.Feed(piece)
	if e != api.OK || !slices.Equal(l, want) {
		t.Errorf("P8: Feed(%.60q) = %v, %d, want %v", piece, l, e, want)
	}
}

func wantClose(t *testing.T, s *munch.Stream, want []api.Token) {
	t.Helper()
	l, e := s.Close()
	if e != api.OK || !slices.Equal(l, want) {
		t.Errorf("P9: Close() = %v, %d, want %v", l, e, want)
	}
}

func wantClosed(t *testing.T, s *munch.Stream) {
	t.Helper()
	for _, piece := range []string{"a", "", "a"} {
		if l, e := s.Feed(piece); len(l) != 0 || e != api.ErrClosed {
			t.Errorf("P8: Feed(%q) of a closed stream = %v, %d, want ErrClosed", piece, l, e)
		}
		if l, e := s.Close(); len(l) != 0 || e != api.ErrClosed {
			t.Errorf("P9: Close() of a closed stream = %v, %d, want ErrClosed", l, e)
		}
	}
}

func TestOpen(t *testing.T) {
	for _, s := range []string{"a|a*b", "(ab)*c", "\"[^\"]*\"", "a\nb\na*c", "a(.*b)?", "[^\x00-\xff]|a*b", "a|(a|b|c)*d"} {
		x := mustNew(t, s)
		if stream, e := x.Open(); stream != nil || e != api.ErrGap {
			t.Errorf("P7: %q: Open() = %v, %d, want ErrGap", s, stream != nil, e)
		}
	}
	for _, s := range []string{"a", "a*", ".*", "[^\x00-\xff]", "[^\x00-\xff]*", "(ab)*", "a*[^\x00-\xff]", strings.Repeat("a", 60)} {
		stream := mustOpen(t, mustNew(t, s))
		wantFeed(t, stream, "", nil)
		wantClose(t, stream, nil)
		wantClosed(t, stream)
	}
}

type fed struct {
	piece string
	told  [][3]int
}

func TestStreams(t *testing.T) {
	for _, c := range []struct {
		s      string
		pieces []fed
		last   [][3]int
	}{
		// The document's example.
		{"a|abc", []fed{{"ab", nil}, {"a", [][3]int{{0, 0, 1}, {-1, 1, 2}}}, {"bc", [][3]int{{0, 2, 5}}}, {"x", [][3]int{{-1, 5, 6}}}, {"a", nil}}, [][3]int{{0, 6, 7}}},
		// K 0: no byte has to be waited for.
		{"[^\x00-\xff]", []fed{{"a", [][3]int{{-1, 0, 1}}}, {"", nil}, {"bc", [][3]int{{-1, 1, 2}, {-1, 2, 3}}}}, nil},
		// K 1, nothing longer can come.
		{"a\nb", []fed{{"a", [][3]int{{0, 0, 1}}}, {"ba", [][3]int{{1, 1, 2}, {0, 2, 3}}}, {"x", [][3]int{{-1, 3, 4}}}}, nil},
		// K 1, something longer always can come, or comes until it can't.
		{".*", []fed{{"a", nil}, {"\n\x00", nil}, {"", nil}, {"a", nil}}, [][3]int{{0, 0, 4}}},
		{"a?a", []fed{{"a", nil}, {"a", [][3]int{{0, 0, 2}}}, {"aaa", [][3]int{{0, 2, 4}}}}, [][3]int{{0, 4, 5}}},
		{"if\n[a-z]+", []fed{{"i", nil}, {"f", nil}, {"s", nil}, {" if", [][3]int{{1, 0, 3}, {-1, 3, 4}}}, {" ", [][3]int{{0, 4, 6}, {-1, 6, 7}}}}, nil},
		// Certain only K bytes later, at once, or in between.
		{"a\nabcd", []fed{{"a", nil}, {"b", nil}, {"c", nil}, {"x", [][3]int{{0, 0, 1}, {-1, 1, 2}, {-1, 2, 3}, {-1, 3, 4}}}}, nil},
		{"a\nabcd", []fed{{"a", nil}, {"b", nil}, {"c", nil}, {"d", [][3]int{{1, 0, 4}}}}, nil},
		{"a\nabcd", []fed{{"ab", nil}, {"ab", [][3]int{{0, 0, 1}, {-1, 1, 2}}}, {"x", [][3]int{{0, 2, 3}, {-1, 3, 4}, {-1, 4, 5}}}}, nil},
		{"abcd", []fed{{"abc", nil}, {"abc", [][3]int{{-1, 0, 1}, {-1, 1, 2}, {-1, 2, 3}}}, {"", nil}}, [][3]int{{-1, 3, 4}, {-1, 4, 5}, {-1, 5, 6}}},
		// What was looked at beyond a token may be a token, or begin one.
		{"a\nab\nbbc\nabbbx", []fed{{"abbb", nil}, {"c", [][3]int{{1, 0, 2}, {2, 2, 5}}}}, nil},
		{"a|aaaa", []fed{{"aaa", nil}, {"b", [][3]int{{0, 0, 1}, {0, 1, 2}, {0, 2, 3}, {-1, 3, 4}}}, {"aaaaa", [][3]int{{0, 4, 8}}}}, [][3]int{{0, 8, 9}}},
		{"a|aaaab", []fed{{"aaaa", nil}, {"a", [][3]int{{0, 0, 1}}}, {"a", [][3]int{{0, 1, 2}}}, {"b", [][3]int{{0, 2, 7}}}}, nil},
		{"a|aaaa", []fed{{"aaa", nil}}, [][3]int{{0, 0, 1}, {0, 1, 2}, {0, 2, 3}}},
		{"abc|b", []fed{{"ab", nil}}, [][3]int{{-1, 0, 1}, {0, 1, 2}}},
		// The state of a token may be that of the rest of others too.
		{"(ab)*", []fed{{"a", nil}, {"b", nil}, {"a", nil}, {"a", [][3]int{{0, 0, 2}, {-1, 2, 3}}}, {"ba", nil}}, [][3]int{{0, 3, 5}, {-1, 5, 6}}},
	} {
		stream := mustOpen(t, mustNew(t, c.s))
		for _, f := range c.pieces {
			wantFeed(t, stream, f.piece, tokensOf(f.told))
		}
		wantClose(t, stream, tokensOf(c.last))
		wantClosed(t, stream)
		if t.Failed() {
			t.Fatalf("so with %q", c.s)
		}
	}
}

// certain is what the document says: the tokens of the cut that are in the cut of all longer texts. With K bytes more a token that is too short can be seen to be so.
func certain(x *munch.Lexer, input, bytes string, more int) []api.Token {
	tokens, _ := x.Split(input)
	for _, more := range textsUpTo(bytes, more) {
		longer, _ := x.Split(input + more)
		for i, token := range tokens {
			if !slices.Contains(longer, token) {
				tokens = tokens[:i]
				break
			}
		}
	}
	return tokens
}

// TestCertain: every short input, byte by byte.
func TestCertain(t *testing.T) {
	for _, c := range []struct{ s, bytes string }{
		{"a|abc", "abc"}, {"a", "ab"}, {"ab\na", "ab"}, {"abc|b", "abc"}, {"a\nab\nabcd", "abcd"}, {"(a|ab)(c|bcb)", "abc"},
		{"a|aab|aabbb", "ab"}, {".", "ab"}, {"..", "ab"}, {"a..", "ab"}, {"[^\x00-\xff]", "ab"}, {"a?b?c?", "abc"}, {"[ab]+", "abc"},
		{"(ab)*", "ab"}, {"a+b?\nbb", "ab"}, {".*", "ab"}, {"a+(ba+)?", "ab"}, {"aaaab|a", "ab"}, {"a(b|bb)*\nba", "ab"},
	} {
		x := mustNew(t, c.s)
		k := x.Gap().K
		for _, input := range textsUpTo(c.bytes, 5) {
			stream := mustOpen(t, x)
			all := []api.Token{}
			for i := range input {
				l, _ := stream.Feed(input[i : i+1])
				all = append(all, l...)
			}
			if want := certain(x, input, c.bytes, max(1, k)); !slices.Equal(all, want) {
				t.Fatalf("P8: %q: of %q %v are told, want %v", c.s, input, all, want)
			}
			cut, _ := x.Split(input)
			wantClose(t, stream, cut[len(all):])
		}
	}
}

// TestEveryPiecing: an input in all pieces that there are, empty ones among them.
func TestEveryPiecing(t *testing.T) {
	for _, c := range []struct{ s, input string }{
		{"a|abc", "ababcab"}, {"a\nab\nabcd", "abcabcda"}, {"abcd|b", "abcabcd"}, {"if\n[a-z]+", "ifs if i"}, {"[^\x00-\xff]", "abcd"}, {".*", "abcdef"},
		{"a|aaaab", "aaaaaab"},
	} {
		x := mustNew(t, c.s)
		want, _ := x.Split(c.input)
		for ends := 0; ends < 1<<len(c.input); ends++ {
			stream := mustOpen(t, x)
			all, begin := []api.Token{}, 0
			for i := range c.input {
				if ends>>i&1 == 1 {
					all = feedSome(t, stream, c.input[begin:i], all)
					all = feedSome(t, stream, "", all)
					begin = i
				}
			}
			all = feedSome(t, stream, c.input[begin:], all)
			l, _ := stream.Close()
			if all = append(all, l...); !slices.Equal(all, want) {
				t.Fatalf("P12: %q: %q in the pieces %b: %v, want %v", c.s, c.input, ends, all, want)
			}
		}
	}
}

func feedSome(t *testing.T, s *munch.Stream, piece string, all []api.Token) []api.Token {
	t.Helper()
	l, e := s.Feed(piece)
	if e != api.OK {
		t.Fatalf("P8: Feed(%q) = %v, %d", piece, l, e)
	}
	return append(all, l...)
}

// certainOf: the tokens ahead of the first that may become longer, which is then the one of which more is to come.
func (m *model) certainOf(input string, cut []api.Token) []api.Token {
	for i, token := range cut {
		if !m.isLongest(input, token) {
			return cut[:i]
		}
	}
	return cut
}

// isLongest: no token begins where this one does, goes along all of the input from there, and is longer.
func (m *model) isLongest(input string, token api.Token) bool {
	node := 0
	for _, b := range []byte(input[token.From:]) {
		if node = m.next[node][b]; node < 0 {
			return true
		}
	}
	for _, to := range m.next[node] {
		if to >= 0 && m.alive[to] {
			return false
		}
	}
	return true
}

func TestRandomStreams(t *testing.T) {
	r := rand.New(rand.NewSource(8))
	opened, far := 0, 0
	for i := 0; i < 1500 && !t.Failed(); i++ {
		rules := randomRules(r)
		x, e, _ := munch.New(joined(rules))
		if e == api.ErrStates {
			continue
		}
		g := x.Gap()
		if s, e := x.Open(); g.Bounded != (s != nil) || (e == api.ErrGap) != (s == nil) {
			t.Fatalf("P7: %q: Open() = %v, %d, Gap %v", joined(rules), s != nil, e, g)
		}
		if !g.Bounded {
			continue
		}
		opened++
		if g.K > 1 {
			far++
		}
		m := newWeb(rules).sets(api.MaxSets)
		for n := 0; n < 5; n++ {
			checkStream(t, r, rules, m, x)
		}
	}
	if opened < 300 || far < 100 {
		t.Errorf("only %d rule texts could be opened, %d of them with K above 1", opened, far)
	}
}

func checkStream(t *testing.T, r *rand.Rand, rules []*tree, m *model, x *munch.Lexer) {
	t.Helper()
	input := randomInput(r, r.Intn(16))
	k := x.Gap().K
	stream := mustOpen(t, x)
	all, at := []api.Token{}, 0
	for at < len(input) {
		n := r.Intn(min(4, len(input)-at+1))
		all = feedSome(t, stream, input[at:at+n], all)
		at += n
		want := m.certainOf(input[:at], cutOf(rules, input[:at]))
		if !slices.Equal(all, want) {
			t.Fatalf("P8: %q: of %q, %d bytes of it fed, %v is told, want %v", joined(rules), input, at, all, want)
		}
	}
	whole := cutOf(rules, input)
	for _, token := range whole[len(all):] {
		if token.Rule >= 0 && token.To+k <= at || token.Rule < 0 && token.From+max(1, k) <= at {
			t.Fatalf("P12: %q: of %q %v is not told, K being %d", joined(rules), input, token, k)
		}
	}
	wantClose(t, stream, whole[len(all):])
	wantClosed(t, stream)
}

// TestLongStream: more than may be split at once, in one piece and in many.
func TestLongStream(t *testing.T) {
	for _, c := range []struct {
		s, unit string
		each    [][3]int // the tokens of each unit
	}{
		{"a|abc", "abcab", [][3]int{{0, 0, 3}, {0, 3, 4}, {-1, 4, 5}}},
		{"[a-z]+", "hello ", [][3]int{{0, 0, 5}, {-1, 5, 6}}},
		{"a\n" + strings.Repeat("a", 50), strings.Repeat("a", 49) + "b", append(units(0, 49), [3]int{-1, 49, 50})},
		{strings.Repeat("a", 50), strings.Repeat("a", 49) + "b", units(-1, 50)},
	} {
		const many = 4000
		x := mustNew(t, c.s)
		want := []api.Token{}
		for i := 0; i < many; i++ {
			for _, token := range c.each {
				want = append(want, api.Token{Rule: token[0], From: i*len(c.unit) + token[1], To: i*len(c.unit) + token[2]})
			}
		}
		input := strings.Repeat(c.unit, many)
		for _, size := range []int{1, 7, 4096, 4097, len(input)} {
			stream := mustOpen(t, x)
			all := []api.Token{}
			for at := 0; at < len(input); at += size {
				all = feedSome(t, stream, input[at:min(at+size, len(input))], all)
			}
			l, _ := stream.Close()
			if all = append(all, l...); !slices.Equal(all, want) {
				t.Fatalf("P8, P9: %q: %d bytes in pieces of %d: %d tokens, want %d", c.s, len(input), size, len(all), len(want))
			}
		}
	}
}

// units: that many tokens of one byte.
func units(rule, many int) [][3]int {
	list := [][3]int{}
	for i := 0; i < many; i++ {
		list = append(list, [3]int{rule, i, i + 1})
	}
	return list
}

// longText has a length, but no bytes that could be read: who looks at them faults.
func longText(length int) string {
	return unsafe.String(new(byte), length)
}

func TestTooMuchFed(t *testing.T) {
	stream := mustOpen(t, mustNew(t, "a|abc"))
	wantRoom(t, stream, api.MaxOffset+1)
	wantRoom(t, stream, api.MaxOffset+1<<20)
	wantFeed(t, stream, "ab", nil)
	wantRoom(t, stream, api.MaxOffset-1)
	wantFeed(t, stream, "", nil)
	wantFeed(t, stream, "cab", tokensOf([][3]int{{0, 0, 3}}))
	wantRoom(t, stream, api.MaxOffset-4)
	wantFeed(t, stream, "c", tokensOf([][3]int{{0, 3, 6}}))
	wantRoom(t, stream, api.MaxOffset-5)
	wantFeed(t, stream, "xa", tokensOf([][3]int{{-1, 6, 7}}))
	wantRoom(t, stream, api.MaxOffset-7)
	wantClose(t, stream, tokensOf([][3]int{{0, 7, 8}}))
	// Of two errors the one that is named first.
	if l, e := stream.Feed(longText(api.MaxOffset + 1)); len(l) != 0 || e != api.ErrClosed {
		t.Errorf("P1, P8: Feed of too much to a closed stream = %v, %d, want ErrClosed", l, e)
	}
}

func wantRoom(t *testing.T, s *munch.Stream, length int) {
	t.Helper()
	if l, e := s.Feed(longText(length)); l != nil || e != api.ErrRoom {
		t.Errorf("P8: Feed of %d bytes = %v, %d, want ErrRoom", length, l, e)
	}
}

// TestStreamsSideBySide: P2: what a stream answers hangs on no other stream, and on no other call of its lexer.
func TestStreamsSideBySide(t *testing.T) {
	r := rand.New(rand.NewSource(9))
	lexers := []*munch.Lexer{mustNew(t, "a|abc"), mustNew(t, "a\nab\nabcd"), mustNew(t, "[ab]+\nc"), mustNew(t, "bcd")}
	for i := 0; i < 100; i++ {
		streams := []*munch.Stream{}
		fed, told := make([]string, 8), make([][]api.Token, 8)
		for n := range fed {
			streams = append(streams, mustOpen(t, lexers[n%4]))
		}
		for step := 0; step < 60; step++ {
			n := r.Intn(8)
			piece := randomInput(r, r.Intn(4))
			fed[n] += piece
			told[n] = feedSome(t, streams[n], piece, told[n])
			lexers[n%4].Split(fed[n] + "ab")
			lexers[n%4].Gap()
		}
		for n, stream := range streams {
			alone := mustOpen(t, lexers[n%4])
			if l := feedSome(t, alone, fed[n], nil); !slices.Equal(l, told[n]) {
				t.Fatalf("P2: of %q %v is told beside others, %v alone", fed[n], told[n], l)
			}
			l, _ := alone.Close()
			wantClose(t, stream, l)
			wantClosed(t, stream)
		}
	}
}

// TestToldListsAreTheCallers: P2, of what streams answer.
func TestToldListsAreTheCallers(t *testing.T) {
	x := mustNew(t, "a|abc")
	first, second := mustOpen(t, x), mustOpen(t, x)
	lists, copies := [][]api.Token{}, [][]api.Token{}
	for n := 0; n < 60; n++ {
		piece := strings.Repeat("abx", n%7) + "ab"
		scribbled, _ := first.Feed(piece)
		kept, _ := second.Feed(piece)
		if !slices.Equal(scribbled, kept) {
			t.Fatalf("P2: Feed(%q) = %v, after earlier answers were written into; want %v", piece, scribbled, kept)
		}
		lists, copies = append(lists, kept), append(copies, slices.Clone(kept))
		scribble(scribbled)
	}
	scribbled, _ := first.Close()
	kept, _ := second.Close()
	if !slices.Equal(scribbled, kept) {
		t.Errorf("P2: Close() = %v, after earlier answers were written into; want %v", scribbled, kept)
	}
	scribble(scribbled)
	for i, l := range lists {
		if !slices.Equal(l, copies[i]) {
			t.Errorf("P2: %v became %v, as later answers were written into", copies[i], l)
		}
	}
}

// TestFedTextIsNotKept: a caller may write over the memory of what was fed.
func TestFedTextIsNotKept(t *testing.T) {
	for _, pieces := range [][]string{{"ab"}, {"a", "b"}, {"xxab", ""}, {"xab"}, {"", "ab", ""}} {
		stream := mustOpen(t, mustNew(t, "abc"))
		skipped := 0
		for _, piece := range pieces {
			memory := []byte(piece + "!")
			l, _ := stream.Feed(unsafe.String(&memory[0], len(piece)))
			skipped += len(l)
			for i := range memory {
				memory[i] = '!'
			}
		}
		wantFeed(t, stream, "c", tokensOf([][3]int{{0, skipped, skipped + 3}}))
	}
	stream := mustOpen(t, mustNew(t, "abc\nab?"))
	memory := []byte("ab")
	stream.Feed(unsafe.String(&memory[0], 2))
	copy(memory, "!!")
	wantClose(t, stream, tokensOf([][3]int{{1, 0, 2}}))
}
