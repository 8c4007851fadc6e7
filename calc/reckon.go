package calc

import (
	"tnumward/api"
	"tnumward/bits"
)

// reckon answers the bits and the bounds of v op w, not yet brought together by Norm.
func reckon(op int, v, w api.Val) (api.Val, api.Errno) {
	if op == api.Shl || op == api.Shr {
		return shift(op, v, w), api.OK
	}
	known, e := bits.Two(op, v.Bits, w.Bits)
	if e != api.OK {
		return api.Val{}, e
	}
	low, high := bounds(op, v, w)
	return api.Val{Bits: known, Low: low, High: high}, api.OK
}

func bounds(op int, v, w api.Val) (uint64, uint64) {
	switch op {
	case api.Add:
		return addBounds(v, w)
	case api.Sub:
		return subBounds(v, w)
	case api.Mul:
		return mulBounds(v, w)
	case api.And:
		return 0, min(v.High, w.High)
	case api.Or:
		return max(v.Low, w.Low), api.Top
	}
	return 0, api.Top
}

func addBounds(v, w api.Val) (uint64, uint64) {
	low, high := v.Low+w.Low, v.High+w.High
	lowRound, highRound := low < v.Low, high < v.High
	if lowRound != highRound {
		return 0, api.Top
	}
	return low, high
}

func subBounds(v, w api.Val) (uint64, uint64) {
	lowRound, highRound := v.Low < w.High, v.High < w.Low
	if lowRound != highRound {
		return 0, api.Top
	}
	return v.Low - w.High, v.High - w.Low
}

func mulBounds(v, w api.Val) (uint64, uint64) {
	if w.High != 0 && v.High > api.Top/w.High {
		return 0, api.Top
	}
	return v.Low * w.Low, v.High * w.High
}

// shift moves v by what w is, if w is known; else little is known of it.
func shift(op int, v, w api.Val) api.Val {
	if !alone(w) {
		high := uint64(api.Top)
		if op == api.Shr {
			high = v.High
		}
		return api.Val{Bits: api.Bits{Mask: api.Top}, High: high}
	}
	n := w.Low & 63
	known, _ := bits.Shift(op, v.Bits, int(n))
	low, high := shiftBounds(op, v, n)
	return api.Val{Bits: known, Low: low, High: high}
}

func shiftBounds(op int, v api.Val, n uint64) (uint64, uint64) {
	if op == api.Shr {
		return v.Low >> n, v.High >> n
	}
	if v.High<<n>>n != v.High {
		return 0, api.Top
	}
	return v.Low << n, v.High << n
}
