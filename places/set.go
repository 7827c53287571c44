package places

// Set is a set of places. Two words hold it, as a place takes at least one of the MaxText bytes of a rule text.
type Set struct {
	low, high uint64
}

const wordBits = 64

func only(place int) Set {
	switch {
	case place < 0 || place >= 2*wordBits:
		return Set{}
	case place < wordBits:
		return Set{low: 1 << uint(place)}
	}
	return Set{high: 1 << uint(place-wordBits)}
}

// Or is the set of the places that are in s or in t.
func (s Set) Or(t Set) Set {
	return Set{low: s.low | t.low, high: s.high | t.high}
}

// And is the set of the places that are in s and in t.
func (s Set) And(t Set) Set {
	return Set{low: s.low & t.low, high: s.high & t.high}
}

// Empty tells whether no place is in s.
func (s Set) Empty() bool {
	return s.low == 0 && s.high == 0
}

// Meets tells whether some place is in s and in t.
func (s Set) Meets(t Set) bool {
	return s.low&t.low != 0 || s.high&t.high != 0
}

func (s Set) has(place int) bool {
	one := only(place)
	return s.Meets(one)
}
