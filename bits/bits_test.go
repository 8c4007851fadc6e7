package bits

import (
	"math"
	"testing"

	"tnumward/api"
)

const top = uint64(api.Top)

// places are bits that are tried in all ways, and what stands around them: far down, far up, and apart, among zeros and ones, so that carries run and leave.
var places = []struct {
	at     [3]uint
	around uint64
}{
	{[3]uint{0, 1, 2}, 0},
	{[3]uint{61, 62, 63}, 0},
	{[3]uint{61, 62, 63}, top},
	{[3]uint{0, 31, 63}, 0},
	{[3]uint{0, 31, 63}, top},
	{[3]uint{3, 5, 40}, 0xf0f0f0f0f0f0f0f0},
}

// tried answers right bits in which the three bits of each place are 0, 1 or not known.
func tried() []api.Bits {
	var out []api.Bits
	for _, p := range places {
		for k := 0; k < 27; k++ {
			a := api.Bits{Value: p.around}
			rest := k
			for _, at := range p.at {
				one := uint64(1) << at
				a.Value &^= one
				switch rest % 3 {
				case 1:
					a.Value |= one
				case 2:
					a.Mask |= one
				}
				rest /= 3
			}
			out = append(out, a)
		}
	}
	return out
}

// numbers answers all that a has.
func numbers(a api.Bits) []uint64 {
	out := []uint64{a.Value}
	for part := a.Mask; part != 0; part = (part - 1) & a.Mask {
		out = append(out, a.Value|part)
	}
	return out
}

// best answers the best bits for some numbers, by A2's words.
func best(all []uint64) api.Bits {
	var a api.Bits
	for i := uint(0); i < 64; i++ {
		ones := 0
		for _, x := range all {
			ones += int(x >> i & 1)
		}
		switch ones {
		case 0:
		case len(all):
			a.Value |= 1 << i
		default:
			a.Mask |= 1 << i
		}
	}
	return a
}

func reckon(op int, x, y uint64) uint64 {
	switch op {
	case api.Add:
		return x + y
	case api.Sub:
		return x - y
	case api.Mul:
		return x * y
	case api.And:
		return x & y
	case api.Or:
		return x | y
	}
	return x ^ y
}

func TestCheck(t *testing.T) {
	for _, a := range []api.Bits{{}, {Value: top}, {Mask: top}, {Value: 5, Mask: 2}, {Value: 1 << 63, Mask: 1}} {
		if e := Check(a); e != api.OK {
			t.Errorf("Check(%v) = %d", a, e)
		}
	}
	for _, a := range wrong() {
		if e := Check(a); e != api.ErrForm {
			t.Errorf("Check(%v) = %d", a, e)
		}
	}
}

func wrong() []api.Bits {
	return []api.Bits{{Value: 1, Mask: 1}, {Value: 1 << 63, Mask: 1 << 63}, {Value: 5, Mask: 6}, {Value: top, Mask: top}}
}

func TestHas(t *testing.T) {
	for _, a := range tried() {
		has := map[uint64]int{}
		for _, x := range numbers(a) {
			has[x] = 1
		}
		for i := uint(0); i < 64; i++ {
			for _, x := range []uint64{a.Value, a.Value ^ 1<<i, a.Value | a.Mask, (a.Value | a.Mask) ^ 1<<i} {
				if Has(a, x) != (has[x] == 1) {
					t.Fatalf("Has(%v, %d) = %v", a, x, Has(a, x))
				}
			}
		}
	}
	for _, a := range wrong() {
		if Has(a, a.Value) || Has(a, a.Value&^a.Mask) || Has(a, a.Mask) {
			t.Errorf("%v has a number", a)
		}
	}
}

func TestInside(t *testing.T) {
	all := append(tried(), api.Bits{Value: 4})
	for _, a := range all {
		for _, b := range all {
			want := true
			for _, x := range numbers(a) {
				want = want && Has(b, x)
			}
			if got := Inside(a, b); got != want {
				t.Fatalf("Inside(%v, %v) = %v", a, b, got)
			}
		}
		if !Inside(a, api.Bits{Mask: top}) {
			t.Fatalf("%v is not inside of all numbers", a)
		}
		for _, b := range wrong() {
			if Inside(a, b) || Inside(b, a) || Inside(b, b) {
				t.Fatalf("Inside takes %v, which is wrong", b)
			}
		}
	}
}

func TestJoin(t *testing.T) {
	all := tried()
	for _, a := range all {
		for _, b := range all {
			want := best(append(numbers(a), numbers(b)...))
			if got, e := Join(a, b); got != want || e != api.OK {
				t.Fatalf("Join(%v, %v) = %v %d, and must be %v", a, b, got, e, want)
			}
		}
	}
}

func TestMeet(t *testing.T) {
	all := tried()
	for _, a := range all {
		for _, b := range all {
			var both []uint64
			for _, x := range numbers(a) {
				if Has(b, x) {
					both = append(both, x)
				}
			}
			want := best(both)
			if got, is, e := Meet(a, b); got != want || is != (len(both) > 0) || e != api.OK {
				t.Fatalf("Meet(%v, %v) = %v %v %d, and must be %v", a, b, got, is, e, want)
			}
		}
	}
}

func TestTwoIsBest(t *testing.T) {
	all := tried()
	for _, op := range []int{api.Add, api.Sub, api.And, api.Or, api.Xor} {
		for _, a := range all {
			for _, b := range all {
				var out []uint64
				for _, x := range numbers(a) {
					for _, y := range numbers(b) {
						out = append(out, reckon(op, x, y))
					}
				}
				want := best(out)
				if got, e := Two(op, a, b); got != want || e != api.OK {
					t.Fatalf("Two(%d, %v, %v) = %v %d, and must be %v", op, a, b, got, e, want)
				}
			}
		}
	}
}

// product is A3's rule for Mul, word by word.
func product(a, b api.Bits) api.Bits {
	var sum api.Bits
	for i := 0; i < 64; i++ {
		one := uint64(1) << uint(i)
		part, _ := Shift(api.Shl, b, i)
		if a.Value&one != 0 {
			sum, _ = Two(api.Add, sum, part)
		} else if a.Mask&one != 0 {
			sum, _ = Two(api.Add, sum, api.Bits{Mask: part.Value | part.Mask})
		}
	}
	return sum
}

func TestTwoMul(t *testing.T) {
	all := tried()
	for _, a := range all {
		for _, b := range all {
			got, e := Two(api.Mul, a, b)
			if want := product(a, b); got != want || e != api.OK {
				t.Fatalf("Two(Mul, %v, %v) = %v %d, and must be %v", a, b, got, e, want)
			}
			for _, x := range numbers(a) {
				for _, y := range numbers(b) {
					if !Has(got, x*y) {
						t.Fatalf("Two(Mul, %v, %v) = %v has not %d * %d", a, b, got, x, y)
					}
				}
			}
		}
	}
	for _, c := range []struct{ a, b, want api.Bits }{
		{api.Bits{Value: 6}, api.Bits{Value: 7}, api.Bits{Value: 42}},
		{api.Bits{Value: 4, Mask: 3}, api.Bits{Value: 4, Mask: 3}, api.Bits{Mask: 63}},
		{api.Bits{Value: 1, Mask: 6}, api.Bits{Value: 1, Mask: 6}, api.Bits{Value: 1, Mask: 62}},
		{api.Bits{Mask: 1}, api.Bits{Value: 6}, api.Bits{Mask: 6}},
		{api.Bits{Value: 1 << 63}, api.Bits{Value: 3}, api.Bits{Value: 1 << 63}},
	} {
		if got, e := Two(api.Mul, c.a, c.b); got != c.want || e != api.OK {
			t.Errorf("Two(Mul, %v, %v) = %v %d, and must be %v", c.a, c.b, got, e, c.want)
		}
	}
}

// TestExample1: 1 or 5, and 3, added.
func TestExample1(t *testing.T) {
	got, e := Two(api.Add, api.Bits{Value: 1, Mask: 4}, api.Bits{Value: 3})
	if (got != api.Bits{Mask: 12}) || e != api.OK {
		t.Errorf("%v %d", got, e)
	}
}

func TestShift(t *testing.T) {
	for _, a := range append(tried(), api.Bits{}, api.Bits{Mask: 0xff}) {
		for n := 0; n < 64; n++ {
			var up, down []uint64
			for _, x := range numbers(a) {
				up = append(up, x<<uint(n))
				down = append(down, x>>uint(n))
			}
			if got, e := Shift(api.Shl, a, n); got != best(up) || e != api.OK {
				t.Fatalf("Shift(Shl, %v, %d) = %v %d", a, n, got, e)
			}
			if got, e := Shift(api.Shr, a, n); got != best(down) || e != api.OK {
				t.Fatalf("Shift(Shr, %v, %d) = %v %d", a, n, got, e)
			}
		}
	}
}

func TestSpan(t *testing.T) {
	for _, from := range []uint64{0, 1<<32 - 20, 1<<63 - 20, top - 40} {
		for low := from; low <= from+40; low++ {
			var all []uint64
			for high := low; high <= from+40; high++ {
				all = append(all, high)
				if got, e := Span(low, high); got != best(all) || e != api.OK {
					t.Fatalf("Span(%d, %d) = %v %d", low, high, got, e)
				}
				if high == top {
					break
				}
			}
			if low == top {
				break
			}
		}
	}
	if got, e := Span(0, top); (got != api.Bits{Mask: top}) || e != api.OK {
		t.Errorf("Span of all: %v %d", got, e)
	}
	for _, x := range [][2]uint64{{1, 0}, {9, 3}, {top, top - 1}, {top, 0}} {
		if got, e := Span(x[0], x[1]); (got != api.Bits{}) || e != api.ErrRange {
			t.Errorf("Span(%d, %d) = %v %d", x[0], x[1], got, e)
		}
	}
}

func TestWrongBits(t *testing.T) {
	right := api.Bits{Value: 4, Mask: 3}
	for _, w := range wrong() {
		for _, c := range [][2]api.Bits{{w, right}, {right, w}, {w, w}} {
			if got, e := Join(c[0], c[1]); (got != api.Bits{}) || e != api.ErrForm {
				t.Errorf("Join(%v) = %v %d", c, got, e)
			}
			if got, is, e := Meet(c[0], c[1]); (got != api.Bits{}) || is || e != api.ErrForm {
				t.Errorf("Meet(%v) = %v %v %d", c, got, is, e)
			}
			for op := -1; op < 20; op++ {
				if got, e := Two(op, c[0], c[1]); (got != api.Bits{}) || e != api.ErrForm {
					t.Errorf("Two(%d, %v) = %v %d", op, c, got, e)
				}
			}
		}
		for op := -1; op < 20; op++ {
			for _, n := range []int{-1, 0, 63, 64} {
				if got, e := Shift(op, w, n); (got != api.Bits{}) || e != api.ErrForm {
					t.Errorf("Shift(%d, %v, %d) = %v %d", op, w, n, got, e)
				}
			}
		}
	}
}

func TestWrongKindAndRange(t *testing.T) {
	a := api.Bits{Value: 4, Mask: 3}
	for _, op := range []int{math.MinInt, -1, 0, api.Mov, api.Shl, api.Shr, api.Load, api.Exit, 16, math.MaxInt} {
		if got, e := Two(op, a, a); (got != api.Bits{}) || e != api.ErrKind {
			t.Errorf("Two(%d) = %v %d", op, got, e)
		}
	}
	for _, op := range []int{math.MinInt, -1, 0, api.Mov, api.Add, api.Xor, api.Load, math.MaxInt} {
		for _, n := range []int{math.MinInt, -1, 0, 63, 64, math.MaxInt} {
			if got, e := Shift(op, a, n); (got != api.Bits{}) || e != api.ErrKind {
				t.Errorf("Shift(%d, %d) = %v %d", op, n, got, e)
			}
		}
	}
	for _, op := range []int{api.Shl, api.Shr} {
		for _, n := range []int{math.MinInt, -1, 64, 65, math.MaxInt} {
			if got, e := Shift(op, a, n); (got != api.Bits{}) || e != api.ErrRange {
				t.Errorf("Shift(%d, %d) = %v %d", op, n, got, e)
			}
		}
	}
}
