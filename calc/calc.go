// Package calc: reckoning with what may be: see doc/03-calc.md.
package calc

import (
	"tnumward/api"
	"tnumward/bits"
	"tnumward/val"
)

// Two answers what x op y may be, x of v, y of w.
func Two(op int, v, w api.Val) (api.Val, api.Errno) {
	if e := checkAll(v, w); e != api.OK {
		return api.Val{}, e
	}
	raw, e := reckon(op, v, w)
	if e != api.OK {
		return api.Val{}, e
	}
	norm, _, e := val.Norm(raw)
	return norm, e
}

// Equal answers what is left of both, if they are the same.
func Equal(v, w api.Val) (api.Val, api.Val, bool, api.Errno) {
	return leave(v, w, func() (api.Val, api.Val, bool) {
		known, may, _ := bits.Meet(v.Bits, w.Bits)
		both := api.Val{Bits: known, Low: max(v.Low, w.Low), High: min(v.High, w.High)}
		return both, both, may
	})
}

// Other answers what is left of both, if they differ.
func Other(v, w api.Val) (api.Val, api.Val, bool, api.Errno) {
	return leave(v, w, func() (api.Val, api.Val, bool) {
		same := alone(v) && alone(w) && v.Low == w.Low
		return without(v, w), without(w, v), !same
	})
}

// Less answers what is left of both, if v is less than w.
func Less(v, w api.Val) (api.Val, api.Val, bool, api.Errno) {
	return leave(v, w, func() (api.Val, api.Val, bool) {
		if w.High == 0 || v.Low == api.Top {
			return v, w, false
		}
		high, low := w.High-1, v.Low+1
		return between(v, v.Low, high), between(w, low, w.High), true
	})
}

// NotLess answers what is left of both, if v is not less than w.
func NotLess(v, w api.Val) (api.Val, api.Val, bool, api.Errno) {
	return leave(v, w, func() (api.Val, api.Val, bool) {
		return between(v, w.Low, v.High), between(w, w.Low, v.High), true
	})
}

// Bytes answers what size bytes may be.
func Bytes(size int) (api.Val, api.Errno) {
	switch size {
	case 1, 2, 4, 8:
		high := uint64(api.Top) >> uint(64-8*size)
		return api.Val{Bits: api.Bits{Mask: high}, High: high}, api.OK
	}
	return api.Val{}, api.ErrRange
}

// checkAll tells the first error that val.Check has of any of them.
func checkAll(all ...api.Val) api.Errno {
	for _, v := range all {
		if e := val.Check(v); e != api.OK {
			return e
		}
	}
	return api.OK
}

// leave answers Norm of both that rest tells; rest is asked only if v and w are right.
func leave(v, w api.Val, rest func() (api.Val, api.Val, bool)) (api.Val, api.Val, bool, api.Errno) {
	if e := checkAll(v, w); e != api.OK {
		return api.Val{}, api.Val{}, false, e
	}
	v, w, may := rest()
	v, some, _ := val.Norm(v)
	w, other, _ := val.Norm(w)
	if !may || !some || !other {
		return api.Val{}, api.Val{}, false, api.OK
	}
	return v, w, true, api.OK
}

// alone tells whether v, which is right, has one number alone.
func alone(v api.Val) bool { return v.Low == v.High }

// between answers v without what is below low or above high.
func between(v api.Val, low, high uint64) api.Val {
	return api.Val{Bits: v.Bits, Low: max(v.Low, low), High: min(v.High, high)}
}

// without answers v without w's number, if that is one alone and stands at an end of v.
func without(v, w api.Val) api.Val {
	switch {
	case !alone(w):
	case v.Low == w.Low:
		v.Low++
	case v.High == w.Low:
		v.High--
	}
	return v
}
