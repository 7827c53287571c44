package munch

import (
	"slices"
	"testing"

	"munch/api"
)

// TestLastBytes: the last bytes that a stream takes. No test can feed all those ahead of them, so the stream is laid there by hand.
func TestLastBytes(t *testing.T) {
	const last = api.MaxOffset
	x, _, _ := New("a|abc")
	s := &Stream{table: &x.table, stand: api.Saved{At: last - 4, End: last - 3, Rule: 0, State: 1, Tail: "b"}}
	for _, c := range []struct {
		piece string
		e     api.Errno
		want  []api.Token
	}{
		{"cab", api.ErrRoom, nil},
		{"", api.OK, nil},
		{"caba", api.ErrRoom, nil},
		{"ca", api.OK, []api.Token{{Rule: 0, From: last - 4, To: last - 1}}},
		{"b", api.ErrRoom, nil},
		{"", api.OK, nil},
	} {
		l, e := s.Feed(c.piece)
		if e != c.e || !slices.Equal(l, c.want) {
			t.Errorf("P8: Feed(%q) = %v, %d, want %v, %d", c.piece, l, e, c.want, c.e)
		}
	}
	l, e := s.Close()
	if e != api.OK || !slices.Equal(l, []api.Token{{Rule: 0, From: last - 1, To: last}}) {
		t.Errorf("P9: Close() = %v, %d", l, e)
	}
}
