package calc

import (
	"math"
	"testing"

	"tnumward/api"
	"tnumward/bits"
	"tnumward/val"
)

const top = uint64(api.Top)

// span answers the right Val of all numbers from low to high.
func span(low, high uint64) api.Val {
	v, _, _ := val.Norm(api.Val{Bits: api.Bits{Mask: top}, Low: low, High: high})
	return v
}

// odd answers the right Val of all odd numbers from low to high.
func odd(low, high uint64) api.Val {
	v, _, _ := val.Norm(api.Val{Bits: api.Bits{Value: 1, Mask: top - 1}, Low: low, High: high})
	return v
}

// small answers all right Vals of three bits, at 0, at the middle and below Top.
func small() []api.Val {
	var out []api.Val
	for _, from := range []uint64{0, 1 << 63, top - 7} {
		for mask := uint64(0); mask < 8; mask++ {
			for value := uint64(0); value < 8; value++ {
				for low := uint64(0); low < 8; low++ {
					for high := low; high < 8; high++ {
						v := api.Val{Bits: api.Bits{Value: from + value, Mask: mask}, Low: from + low, High: from + high}
						if val.Check(v) == api.OK {
							out = append(out, v)
						}
					}
				}
			}
		}
	}
	return out
}

// tried answers small ones and great ones.
func tried() []api.Val {
	return append(small(), val.Any(), span(0, 1), span(60, 70), span(top-3, top), span(1, top), span(0, top-1), odd(2, 10), odd(1, top), span(1<<32, 1<<33), val.Of(1<<32), val.Of(65))
}

// numbers answers all that v has, or the ends of it, if these are many.
func numbers(v api.Val) []uint64 {
	var out []uint64
	add := func(x uint64) {
		if val.Has(v, x) {
			out = append(out, x)
		}
	}
	for i := uint64(0); i < 8; i++ {
		if v.Low+i >= v.Low {
			add(v.Low + i)
		}
		if v.High-i <= v.High && v.High-i > v.Low+7 && v.Low < top-7 {
			add(v.High - i)
		}
	}
	return out
}

func reckonOne(op int, x, y uint64) uint64 {
	switch op {
	case api.Add:
		return x + y
	case api.Sub:
		return x - y
	case api.Mul:
		return x * y
	case api.And:
		return x & y
	case api.Or:
		return x | y
	case api.Xor:
		return x ^ y
	case api.Shl:
		return x << (y & 63)
	}
	return x >> (y & 63)
}

func TestTwoHasAll(t *testing.T) {
	all := tried()
	for op := api.Add; op <= api.Shr; op++ {
		for _, v := range all {
			for _, w := range all {
				got, e := Two(op, v, w)
				if e != api.OK || val.Check(got) != api.OK {
					t.Fatalf("Two(%d, %v, %v) = %v %d", op, v, w, got, e)
				}
				for _, x := range numbers(v) {
					for _, y := range numbers(w) {
						if !hasFast(got, reckonOne(op, x, y)) {
							t.Fatalf("Two(%d, %v, %v) = %v has not that of %d and %d", op, v, w, got, x, y)
						}
					}
				}
			}
		}
	}
}

// hasFast is val.Has of one that was checked.
func hasFast(v api.Val, x uint64) bool {
	return x&^v.Bits.Mask == v.Bits.Value && v.Low <= x && x <= v.High
}

// normed answers Norm of the given bounds and the bits of chapter 1.
func normed(op int, v, w api.Val, low, high uint64) api.Val {
	known, e := bits.Two(op, v.Bits, w.Bits)
	if op == api.Shl || op == api.Shr {
		known, e = bits.Shift(op, v.Bits, int(w.Low&63))
		if w.Low != w.High {
			known = api.Bits{Mask: top}
		}
	}
	if e != api.OK {
		panic(e)
	}
	out, _, _ := val.Norm(api.Val{Bits: known, Low: low, High: high})
	return out
}

// TestTwoBounds: each line of the table, with the bounds written out.
func TestTwoBounds(t *testing.T) {
	for _, c := range []struct {
		op        int
		v, w      api.Val
		low, high uint64
	}{
		{api.Add, span(3, 9), span(60, 70), 63, 79},
		{api.Add, span(top-3, top), span(4, 6), 0, 5},
		{api.Add, span(top-3, top), span(3, 6), 0, top},
		{api.Add, span(top-3, top), span(0, 0), top - 3, top},
		{api.Add, span(0, top), span(0, 1), 0, top},
		{api.Add, val.Of(1 << 63), val.Of(1 << 63), 0, 0},
		{api.Sub, span(60, 70), span(3, 9), 51, 67},
		{api.Sub, span(3, 9), span(3, 9), 0, top},
		{api.Sub, span(9, 12), span(3, 9), 0, 9},
		{api.Sub, span(3, 8), span(9, 12), top - 8, top},
		{api.Sub, span(3, 9), span(9, 12), 0, top},
		{api.Mul, span(3, 9), span(60, 70), 180, 630},
		{api.Mul, span(3, 1<<32), span(5, 1<<32), 0, top},
		{api.Mul, span(3, 1<<32), span(5, 1<<32-1), 15, 1<<64 - 1<<32},
		{api.Mul, span(1, top), span(0, 0), 0, 0},
		{api.Mul, span(0, 0), span(1, top), 0, 0},
		{api.Mul, span(2, top), span(1, 1), 2, top},
		{api.Mul, span(2, top), span(1, 2), 0, top},
		{api.And, span(60, 70), span(3, 9), 0, 9},
		{api.And, span(3, 9), span(60, 70), 0, 9},
		{api.Or, span(60, 70), span(3, 9), 60, top},
		{api.Or, span(3, 9), span(60, 70), 60, top},
		{api.Xor, span(60, 70), span(3, 9), 0, top},
		{api.Shl, span(3, 9), val.Of(4), 48, 144},
		{api.Shl, span(3, 9), val.Of(60), 3 << 60, 9 << 60},
		{api.Shl, span(3, 9), val.Of(61), 0, top},
		{api.Shl, span(3, 15), val.Of(60), 3 << 60, 15 << 60},
		{api.Shl, span(3, 16), val.Of(60), 0, top},
		{api.Shl, span(3, 9), val.Of(64), 3, 9},
		{api.Shl, span(3, 9), val.Of(65), 6, 18},
		{api.Shl, span(3, 9), span(1, 2), 0, top},
		{api.Shr, span(60, 70), val.Of(2), 15, 17},
		{api.Shr, span(60, 70), val.Of(63), 0, 0},
		{api.Shr, span(60, 70), val.Of(64), 60, 70},
		{api.Shr, span(60, 70), val.Of(top), 0, 0},
		{api.Shr, span(60, 70), span(1, 2), 0, 70},
	} {
		want := normed(c.op, c.v, c.w, c.low, c.high)
		if got, e := Two(c.op, c.v, c.w); got != want || e != api.OK {
			t.Errorf("Two(%d, %v, %v) = %v %d, and must be %v", c.op, c.v, c.w, got, e, want)
		}
	}
}

// TestTwoWhole: answers written out whole, bits too.
func TestTwoWhole(t *testing.T) {
	for _, c := range []struct {
		op         int
		v, w, want api.Val
	}{
		{api.Add, odd(3, 9), val.Of(5), api.Val{Bits: api.Bits{Value: 8, Mask: 6}, Low: 8, High: 14}},
		{api.Add, val.Of(top), val.Of(1), val.Of(0)},
		{api.Sub, val.Of(0), val.Of(1), val.Of(top)},
		{api.Mul, val.Of(6), val.Of(7), val.Of(42)},
		{api.And, val.Any(), val.Of(3), api.Val{Bits: api.Bits{Mask: 3}, High: 3}},
		{api.Or, val.Any(), val.Of(5), api.Val{Bits: api.Bits{Value: 5, Mask: top - 5}, Low: 5, High: top}},
		{api.Xor, odd(3, 9), val.Of(1), api.Val{Bits: api.Bits{Mask: 14}, High: 14}},
		{api.Shl, odd(3, 9), val.Of(5), api.Val{Bits: api.Bits{Value: 32, Mask: 448}, Low: 96, High: 288}},
		{api.Shl, odd(3, 9), span(5, 6), val.Any()},
		{api.Shr, odd(3, 9), val.Of(1), api.Val{Bits: api.Bits{Mask: 7}, Low: 1, High: 4}},
		{api.Shr, odd(3, 9), span(0, 1), api.Val{Bits: api.Bits{Mask: 15}, High: 9}},
	} {
		if got, e := Two(c.op, c.v, c.w); got != c.want || e != api.OK {
			t.Errorf("Two(%d, %v, %v) = %v %d, and must be %v", c.op, c.v, c.w, got, e, c.want)
		}
	}
}

func TestTwoKind(t *testing.T) {
	for _, op := range []int{math.MinInt, -1, 0, api.Mov, api.Load, api.Store, api.Exit, 16, math.MaxInt} {
		if got, e := Two(op, val.Of(1), val.Any()); (got != api.Val{}) || e != api.ErrKind {
			t.Errorf("Two(%d) = %v %d", op, got, e)
		}
	}
}

type leaving func(v, w api.Val) (api.Val, api.Val, bool, api.Errno)

// compares answers the four calls of C2, each with what it takes to be so.
func compares() []struct {
	name string
	call leaving
	so   func(x, y uint64) bool
} {
	return []struct {
		name string
		call leaving
		so   func(x, y uint64) bool
	}{
		{"Equal", Equal, func(x, y uint64) bool { return x == y }},
		{"Other", Other, func(x, y uint64) bool { return x != y }},
		{"Less", Less, func(x, y uint64) bool { return x < y }},
		{"NotLess", NotLess, func(x, y uint64) bool { return x >= y }},
	}
}

func TestLeftHasAll(t *testing.T) {
	all := tried()
	for _, c := range compares() {
		for _, v := range all {
			for _, w := range all {
				a, b, may, e := c.call(v, w)
				if e != api.OK || may && (!val.Inside(a, v) || !val.Inside(b, w)) || !may && (a != api.Val{} || b != api.Val{}) {
					t.Fatalf("%s(%v, %v) = %v %v %v %d", c.name, v, w, a, b, may, e)
				}
				for _, x := range numbers(v) {
					for _, y := range numbers(w) {
						if c.so(x, y) && !(may && hasFast(a, x) && hasFast(b, y)) {
							t.Fatalf("%s(%v, %v) = %v %v %v has not %d and %d", c.name, v, w, a, b, may, x, y)
						}
					}
				}
			}
		}
	}
}

type leftCase struct{ v, w, a, b api.Val }

func checkLeft(t *testing.T, call leaving, cases []leftCase) {
	t.Helper()
	for _, c := range cases {
		if a, b, may, e := call(c.v, c.w); a != c.a || b != c.b || !may || e != api.OK {
			t.Errorf("of %v and %v %v and %v %v %d are left, and must be %v and %v", c.v, c.w, a, b, may, e, c.a, c.b)
		}
	}
}

func checkCannot(t *testing.T, call leaving, cases [][2]api.Val) {
	t.Helper()
	for _, c := range cases {
		if a, b, may, e := call(c[0], c[1]); (a != api.Val{}) || (b != api.Val{}) || may || e != api.OK {
			t.Errorf("of %v %v and %v %v %d are left, and it can't be", c, a, b, may, e)
		}
	}
}

func TestEqual(t *testing.T) {
	checkLeft(t, Equal, []leftCase{
		{span(3, 9), span(5, 12), span(5, 9), span(5, 9)},
		{odd(3, 9), span(4, 8), odd(5, 7), odd(5, 7)},
		{val.Any(), val.Of(7), val.Of(7), val.Of(7)},
		{val.Of(0), val.Any(), val.Of(0), val.Of(0)},
		{span(0, 5), span(5, top), val.Of(5), val.Of(5)},
	})
	checkCannot(t, Equal, [][2]api.Val{
		{val.Of(1), val.Of(2)},
		{span(0, 4), span(5, 9)},
		{odd(3, 9), val.Of(4)},
		{odd(3, 5), odd(7, 9)},
		{odd(3, 9), api.Val{Bits: api.Bits{Mask: 14}, High: 14}},
		{odd(1, 5), span(2, 2)},
	})
}

func TestOther(t *testing.T) {
	checkLeft(t, Other, []leftCase{
		{span(3, 9), val.Of(3), span(4, 9), val.Of(3)},
		{span(3, 9), val.Of(9), span(3, 8), val.Of(9)},
		{odd(3, 9), val.Of(3), odd(5, 9), val.Of(3)},
		{odd(3, 9), val.Of(9), odd(3, 7), val.Of(9)},
		{span(3, 9), val.Of(5), span(3, 9), val.Of(5)},
		{val.Of(3), span(3, 9), val.Of(3), span(4, 9)},
		{val.Of(9), odd(3, 9), val.Of(9), odd(3, 7)},
		{val.Of(3), val.Of(4), val.Of(3), val.Of(4)},
		{span(3, 4), val.Of(3), val.Of(4), val.Of(3)},
		{val.Of(4), span(3, 4), val.Of(4), val.Of(3)},
		{span(3, 9), span(3, 9), span(3, 9), span(3, 9)},
		{val.Any(), val.Of(0), span(1, top), val.Of(0)},
		{val.Any(), val.Of(top), span(0, top-1), val.Of(top)},
		{val.Of(0), val.Of(top), val.Of(0), val.Of(top)},
	})
	checkCannot(t, Other, [][2]api.Val{
		{val.Of(0), val.Of(0)},
		{val.Of(7), val.Of(7)},
		{val.Of(top), val.Of(top)},
	})
}

func TestLess(t *testing.T) {
	checkLeft(t, Less, []leftCase{
		{span(3, 9), span(5, 7), span(3, 6), span(5, 7)},
		{span(6, 9), span(5, 8), span(6, 7), span(7, 8)},
		{val.Any(), val.Any(), span(0, top-1), span(1, top)},
		{val.Of(3), span(0, 9), val.Of(3), span(4, 9)},
		{val.Any(), val.Of(1), val.Of(0), val.Of(1)},
		{val.Of(top - 1), val.Any(), val.Of(top - 1), val.Of(top)},
		{odd(3, 9), odd(3, 9), odd(3, 7), odd(5, 9)},
	})
	checkCannot(t, Less, [][2]api.Val{
		{val.Any(), val.Of(0)},
		{val.Of(top), val.Any()},
		{val.Of(top), val.Of(0)},
		{span(9, 12), span(3, 9)},
		{odd(3, 9), val.Of(3)},
		{val.Of(5), val.Of(5)},
		{span(5, 9), span(0, 5)},
	})
}

// TestExample3: of odd numbers from 3 to 9 that are less than 6 those from 3 to 5 are left.
func TestExample3(t *testing.T) {
	checkLeft(t, Less, []leftCase{{odd(3, 9), val.Of(6), odd(3, 5), val.Of(6)}})
}

func TestNotLess(t *testing.T) {
	checkLeft(t, NotLess, []leftCase{
		{span(3, 9), span(5, 12), span(5, 9), span(5, 9)},
		{val.Any(), val.Any(), val.Any(), val.Any()},
		{val.Any(), val.Of(top), val.Of(top), val.Of(top)},
		{val.Of(0), val.Any(), val.Of(0), val.Of(0)},
		{odd(3, 9), val.Of(4), odd(5, 9), val.Of(4)},
		{span(5, 9), span(2, 4), span(5, 9), span(2, 4)},
		{val.Of(4), odd(3, 9), val.Of(4), val.Of(3)},
	})
	checkCannot(t, NotLess, [][2]api.Val{
		{val.Of(2), odd(3, 9)},
		{span(0, 4), span(5, 9)},
		{val.Of(0), val.Of(top)},
	})
}

func TestWrongVals(t *testing.T) {
	for _, w := range []api.Val{
		{Low: 1},
		{High: 1},
		{Bits: api.Bits{Value: 1, Mask: 1}, Low: 1, High: 1},
		{Bits: api.Bits{Mask: top}, Low: 3, High: 9},
		{Bits: api.Bits{Mask: top}, Low: 9, High: 3},
	} {
		for _, p := range [][2]api.Val{{w, val.Any()}, {val.Of(0), w}, {w, w}} {
			for op := -1; op < 17; op++ {
				if got, e := Two(op, p[0], p[1]); (got != api.Val{}) || e != api.ErrForm {
					t.Errorf("Two(%d, %v) = %v %d", op, p, got, e)
				}
			}
			for _, c := range compares() {
				if a, b, may, e := c.call(p[0], p[1]); (a != api.Val{}) || (b != api.Val{}) || may || e != api.ErrForm {
					t.Errorf("%s(%v) = %v %v %v %d", c.name, p, a, b, may, e)
				}
			}
		}
	}
}

func TestBytes(t *testing.T) {
	for size, high := range map[int]uint64{1: 0xff, 2: 0xffff, 4: 0xffffffff, 8: top} {
		want := api.Val{Bits: api.Bits{Mask: high}, High: high}
		if got, e := Bytes(size); got != want || e != api.OK || val.Check(got) != api.OK {
			t.Errorf("Bytes(%d) = %v %d", size, got, e)
		}
	}
	for _, size := range []int{math.MinInt, -8, -1, 0, 3, 5, 6, 7, 9, 16, 64, math.MaxInt} {
		if got, e := Bytes(size); (got != api.Val{}) || e != api.ErrRange {
			t.Errorf("Bytes(%d) = %v %d", size, got, e)
		}
	}
}

// edgeVals answers Vals of all kinds, most of them wrong, made of numbers at the edges.
func edgeVals() []api.Val {
	var out []api.Val
	edges := []uint64{0, 1, 6, 1 << 63, top - 1, top}
	for _, value := range edges {
		for _, mask := range edges {
			for _, low := range edges {
				for _, high := range edges {
					out = append(out, api.Val{Bits: api.Bits{Value: value, Mask: mask}, Low: low, High: high})
				}
			}
		}
	}
	return out
}

type answer struct {
	a, b api.Val
	may  bool
	e    api.Errno
}

// ask answers what the calls of this package tell of v and w, one behind another.
func ask(v, w api.Val) []answer {
	var out []answer
	for op := 0; op <= api.Load; op++ {
		a, e := Two(op, v, w)
		out = append(out, answer{a, api.Val{}, e == api.OK, e})
	}
	for _, c := range compares() {
		a, b, may, e := c.call(v, w)
		out = append(out, answer{a, b, may, e})
	}
	return out
}

// TestAnyInput: with an error, or a false, all else is zero; asked again, later and in another order, the answers are the same.
func TestAnyInput(t *testing.T) {
	all := edgeVals()
	some := []api.Val{{}, {Low: 1}, val.Any(), odd(3, 9), span(top-3, top)}
	var first [][]answer
	for _, v := range all {
		for _, w := range some {
			first = append(first, ask(v, w))
		}
	}
	for i := len(first) - 1; i >= 0; i-- {
		v, w := all[i/len(some)], some[i%len(some)]
		for k, again := range ask(v, w) {
			was := first[i][k]
			if was != again {
				t.Fatalf("of %v and %v: first %v, then %v", v, w, was, again)
			}
			if !was.may && (was.a != api.Val{} || was.b != api.Val{}) || was.e != api.OK && was.may {
				t.Fatalf("of %v and %v: %v", v, w, was)
			}
		}
	}
}
