// Package val: numbers that may be: see doc/02-val.md.
package val

import (
	mathbits "math/bits"

	"tnumward/api"
	"tnumward/bits"
)

// Check tells whether v is right.
func Check(v api.Val) api.Errno {
	if !bits.Has(v.Bits, v.Low) || !bits.Has(v.Bits, v.High) {
		return api.ErrForm
	}
	span, e := bits.Span(v.Low, v.High)
	if e != api.OK || !bits.Inside(v.Bits, span) {
		return api.ErrForm
	}
	return api.OK
}

// Has tells whether v is right, and x is one of its numbers.
func Has(v api.Val, x uint64) bool {
	return Check(v) == api.OK && bits.Has(v.Bits, x) && v.Low <= x && x <= v.High
}

// Norm answers the right one that has the numbers of v; false, if there are none.
func Norm(v api.Val) (api.Val, bool, api.Errno) {
	if e := bits.Check(v.Bits); e != api.OK {
		return api.Val{}, false, e
	}
	low, above := least(v.Bits, v.Low)
	high, below := greatest(v.Bits, v.High)
	if !above || !below || low > high {
		return api.Val{}, false, api.OK
	}
	// Neither can fail: low is not above high, and both of what is met have low.
	span, _ := bits.Span(low, high)
	known, _, _ := bits.Meet(v.Bits, span)
	return api.Val{Bits: known, Low: low, High: high}, true, api.OK
}

// Of answers the one that has x alone.
func Of(x uint64) api.Val {
	return api.Val{Bits: api.Bits{Value: x}, Low: x, High: x}
}

// Any answers the one that has all numbers.
func Any() api.Val {
	return api.Val{Bits: api.Bits{Mask: api.Top}, High: api.Top}
}

// Inside tells whether both are right, and the bits and the bounds of v are inside of those of w.
func Inside(v, w api.Val) bool {
	if Check(v) != api.OK || Check(w) != api.OK {
		return false
	}
	return bits.Inside(v.Bits, w.Bits) && w.Low <= v.Low && v.High <= w.High
}

// Join answers one that has what v has and what w has.
func Join(v, w api.Val) (api.Val, api.Errno) {
	if Check(v) != api.OK || Check(w) != api.OK {
		return api.Val{}, api.ErrForm
	}
	known, _ := bits.Join(v.Bits, w.Bits)
	both, _, e := Norm(api.Val{Bits: known, Low: min(v.Low, w.Low), High: max(v.High, w.High)})
	return both, e
}

// least answers the least number of a, which is right, that is not below x; false, if there is none.
func least(a api.Bits, x uint64) (uint64, bool) {
	wrong := (x ^ a.Value) &^ a.Mask
	if wrong == 0 {
		return x, true
	}
	// Above the highest known bit that x does not have as it is, the answer may be as x is.
	rest := uint64(1)<<uint(mathbits.Len64(wrong)) - 1
	if a.Value&rest > x&rest {
		return x&^rest | a.Value&rest, true
	}
	// There x has a 1 that must be 0: the lowest free 0 of x above it has to become 1.
	free := a.Mask &^ x &^ rest
	if free == 0 {
		return 0, false
	}
	one := free & -free
	return x&^(one-1) | one | a.Value&(one-1), true
}

// greatest answers the greatest number of a, which is right, that is not above x; false, if there is none.
func greatest(a api.Bits, x uint64) (uint64, bool) {
	// With all bits turned over, what was greatest is least.
	y, is := least(api.Bits{Value: ^(a.Value | a.Mask), Mask: a.Mask}, ^x)
	if !is {
		return 0, false
	}
	return ^y, true
}
