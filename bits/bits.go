// Package bits: bits that are known: see doc/01-bits.md.
package bits

import (
	mathbits "math/bits"

	"tnumward/api"
)

// Check tells whether no bit is both known 1 and unknown.
func Check(a api.Bits) api.Errno { return checkAll(a) }

// checkAll tells the first error that Check has of any of them.
func checkAll(all ...api.Bits) api.Errno {
	for _, a := range all {
		if a.Value&a.Mask != 0 {
			return api.ErrForm
		}
	}
	return api.OK
}

// Has tells whether x is one of the numbers of a.
func Has(a api.Bits, x uint64) bool {
	return checkAll(a) == api.OK && x&^a.Mask == a.Value
}

// Inside tells whether b has all numbers that a has.
func Inside(a, b api.Bits) bool {
	return checkAll(a, b) == api.OK && a.Mask&^b.Mask == 0 && a.Value&^b.Mask == b.Value
}

// Join answers the best bits for the numbers of a and those of b.
func Join(a, b api.Bits) (api.Bits, api.Errno) {
	if e := checkAll(a, b); e != api.OK {
		return api.Bits{}, e
	}
	return without(a.Value, a.Mask|b.Mask|(a.Value^b.Value)), api.OK
}

// Meet answers the bits that have what both have; false, if that is nothing.
func Meet(a, b api.Bits) (api.Bits, bool, api.Errno) {
	if e := checkAll(a, b); e != api.OK {
		return api.Bits{}, false, e
	}
	if (a.Value^b.Value)&^(a.Mask|b.Mask) != 0 {
		return api.Bits{}, false, api.OK
	}
	return api.Bits{Value: a.Value | b.Value, Mask: a.Mask & b.Mask}, true, api.OK
}

// Two answers bits for all numbers x op y, x of a, y of b.
func Two(op int, a, b api.Bits) (api.Bits, api.Errno) {
	if e := checkAll(a, b); e != api.OK {
		return api.Bits{}, e
	}
	switch op {
	case api.Add:
		return add(a, b), api.OK
	case api.Sub:
		return sub(a, b), api.OK
	case api.Mul:
		return mul(a, b), api.OK
	case api.And:
		return and(a, b), api.OK
	case api.Or:
		return or(a, b), api.OK
	case api.Xor:
		return without(a.Value^b.Value, a.Mask|b.Mask), api.OK
	}
	return api.Bits{}, api.ErrKind
}

// Shift answers the best bits for the numbers of a, moved by n bits.
func Shift(op int, a api.Bits, n int) (api.Bits, api.Errno) {
	if e := checkAll(a); e != api.OK {
		return api.Bits{}, e
	}
	if op != api.Shl && op != api.Shr {
		return api.Bits{}, api.ErrKind
	}
	if n < 0 || n > 63 {
		return api.Bits{}, api.ErrRange
	}
	if op == api.Shl {
		return up(a, uint(n)), api.OK
	}
	return api.Bits{Value: a.Value >> uint(n), Mask: a.Mask >> uint(n)}, api.OK
}

// Span answers the best bits for all numbers from low to high.
func Span(low, high uint64) (api.Bits, api.Errno) {
	if low > high {
		return api.Bits{}, api.ErrRange
	}
	// Between two numbers that part at some bit lie ..0111 and ..1000 of that bit, so no bit below is known either.
	mask := uint64(1)<<uint(mathbits.Len64(low^high)) - 1
	return without(low, mask), api.OK
}

// without answers the bits of value of which those in mask are not known.
func without(value, mask uint64) api.Bits {
	return api.Bits{Value: value &^ mask, Mask: mask}
}

func up(a api.Bits, n uint) api.Bits {
	return api.Bits{Value: a.Value << n, Mask: a.Mask << n}
}

// add: the least sum and the greatest one differ just where a carry out of unknown bits may come in.
func add(a, b api.Bits) api.Bits {
	least := a.Value + b.Value
	greatest := least + a.Mask + b.Mask
	return without(least, (least^greatest)|a.Mask|b.Mask)
}

// sub: as add, between the greatest and the least difference, for borrows.
func sub(a, b api.Bits) api.Bits {
	plain := a.Value - b.Value
	greatest := plain + a.Mask
	least := plain - b.Mask
	return without(plain, (greatest^least)|a.Mask|b.Mask)
}

func and(a, b api.Bits) api.Bits {
	ones := a.Value & b.Value
	return api.Bits{Value: ones, Mask: (a.Value | a.Mask) & (b.Value | b.Mask) &^ ones}
}

func or(a, b api.Bits) api.Bits {
	ones := a.Value | b.Value
	return api.Bits{Value: ones, Mask: (a.Mask | b.Mask) &^ ones}
}

func mul(a, b api.Bits) api.Bits {
	var sum api.Bits
	for i := uint(0); i < 64; i++ {
		part := up(b, i)
		switch {
		case a.Value>>i&1 == 1:
			sum = add(sum, part)
		case a.Mask>>i&1 == 1:
			sum = add(sum, api.Bits{Mask: part.Value | part.Mask})
		}
	}
	return sum
}
