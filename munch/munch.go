// Package munch: tokenisers that know how far they must look ahead: see DOC.md.
package munch

import (
	"munch/api"
	"munch/cut"
	"munch/gap"
	"munch/places"
	"munch/states"
)

// Lexer is what was made out of a rule text.
type Lexer struct {
	table states.Table
}

// Stream is an input that is cut into tokens as it comes.
type Stream struct {
	table  *states.Table
	stand  api.Saved
	closed bool
}

// New makes a lexer (P3).
func New(rules string) (*Lexer, api.Errno, int) {
	read, e, at := places.Read(rules)
	if e != api.OK {
		return nil, e, at
	}
	table, e := states.Build(read)
	if e != api.OK {
		return nil, e, 0
	}
	return &Lexer{table: table}, api.OK, 0
}

// States tells how many states there are (P4).
func (x *Lexer) States() int { return x.table.Count() }

// Next tells where a byte leads (P4).
func (x *Lexer) Next(s int, b int) int { return x.table.Next(s, b) }

// Rule tells of which rule a state's texts are tokens (P4).
func (x *Lexer) Rule(s int) int { return x.table.Rule(s) }

// Split cuts an input into tokens (P5).
func (x *Lexer) Split(input string) ([]api.Token, api.Errno) {
	if len(input) > api.MaxInput {
		return nil, api.ErrRoom
	}
	start := cut.Start(0)
	tokens, _ := cut.On(&x.table, start, input, true)
	return tokens, api.OK
}

// Gap tells how far one must look ahead (P6).
func (x *Lexer) Gap() api.Gap { return gap.Find(&x.table) }

// Open begins a stream (P7).
func (x *Lexer) Open() (*Stream, api.Errno) {
	g := gap.Find(&x.table)
	if !g.Bounded {
		return nil, api.ErrGap
	}
	start := cut.Start(0)
	return &Stream{table: &x.table, stand: start}, api.OK
}

// Feed gives a stream some bytes more (P8).
func (t *Stream) Feed(bytes string) ([]api.Token, api.Errno) {
	if t.closed {
		return nil, api.ErrClosed
	}
	fed := t.stand.End + len(t.stand.Tail)
	if len(bytes) > api.MaxOffset-fed {
		return nil, api.ErrRoom
	}
	tokens, stand := cut.On(t.table, t.stand, bytes, false)
	t.stand = stand
	return tokens, api.OK
}

// Close says that the input ends here (P9).
func (t *Stream) Close() ([]api.Token, api.Errno) {
	if t.closed {
		return nil, api.ErrClosed
	}
	tokens, stand := cut.On(t.table, t.stand, "", true)
	t.stand = stand
	t.closed = true
	return tokens, api.OK
}

// Save tells how a stream stands (P10).
func (t *Stream) Save() (api.Saved, api.Errno) {
	if t.closed {
		return api.Saved{}, api.ErrClosed
	}
	return t.stand, api.OK
}

// Resume makes a stream that stands so (P11).
func (x *Lexer) Resume(s api.Saved) (*Stream, api.Errno) {
	g := gap.Find(&x.table)
	if !g.Bounded {
		return nil, api.ErrGap
	}
	stand, fits := cut.Resume(&x.table, s)
	if !fits {
		return nil, api.ErrSaved
	}
	return &Stream{table: &x.table, stand: stand}, api.OK
}
