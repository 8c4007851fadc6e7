package val

import (
	"testing"

	"tnumward/api"
	"tnumward/bits"
)

const top = uint64(api.Top)

// wide is how many bits are tried in all ways.
const wide = 4

// raw answers Vals, right ones and others, whose numbers are near 0, near Top, and about the middle.
func raw() []api.Val {
	var out []api.Val
	for _, from := range []uint64{0, top - 1<<wide + 1, 1<<63 - 1<<(wide-1)} {
		ends := []uint64{0, top, 1 << 62}
		for x := uint64(0); x < 1<<wide; x++ {
			ends = append(ends, from+x)
		}
		ends = append(ends, from-1, from+1<<wide)
		for mask := uint64(0); mask < 1<<wide; mask++ {
			for value := uint64(0); value < 1<<wide; value++ {
				a := api.Bits{Value: (from + value) &^ mask, Mask: mask}
				if value&mask != 0 {
					continue
				}
				for _, low := range ends {
					for _, high := range ends {
						out = append(out, api.Val{Bits: a, Low: low, High: high})
					}
				}
			}
		}
	}
	return out
}

// numbers answers what a Val has whose Bits are right, from the least on.
func numbers(v api.Val) []uint64 {
	var out []uint64
	part := uint64(0)
	for {
		if x := v.Bits.Value | part; v.Low <= x && x <= v.High {
			out = append(out, x)
		}
		if part == v.Bits.Mask {
			return out
		}
		part = (part - v.Bits.Mask) & v.Bits.Mask
	}
}

// same answers those bits in which x and y are the same from the highest one on.
func same(x, y uint64) uint64 {
	out := uint64(0)
	for i := 63; i >= 0 && x>>uint(i)&1 == y>>uint(i)&1; i-- {
		out |= 1 << uint(i)
	}
	return out
}

func isRight(v api.Val) bool {
	return bits.Has(v.Bits, v.Low) && bits.Has(v.Bits, v.High) && v.Low <= v.High && v.Bits.Mask&same(v.Low, v.High) == 0
}

func TestCheckAndHas(t *testing.T) {
	rights := 0
	for _, v := range raw() {
		want := api.ErrForm
		if isRight(v) {
			want = api.OK
			rights++
		}
		if got := Check(v); got != want {
			t.Fatalf("Check(%v) = %d", v, got)
		}
		for _, x := range []uint64{v.Low, v.High, v.Low - 1, v.High + 1, v.Low + 1, v.High - 1, v.Bits.Value, v.Bits.Value | v.Bits.Mask} {
			has := want == api.OK && bits.Has(v.Bits, x) && v.Low <= x && x <= v.High
			if Has(v, x) != has {
				t.Fatalf("Has(%v, %d) = %v", v, x, !has)
			}
		}
	}
	if rights < 300 {
		t.Errorf("only %d right ones were tried", rights)
	}
}

func TestCheckNamed(t *testing.T) {
	for _, c := range []struct {
		v    api.Val
		want api.Errno
	}{
		{api.Val{}, api.OK},
		{Any(), api.OK},
		{api.Val{Bits: api.Bits{Value: 1, Mask: 14}, Low: 3, High: 9}, api.OK},
		{api.Val{Bits: api.Bits{Value: 1, Mask: 1}, Low: 1, High: 1}, api.ErrForm},
		{api.Val{Bits: api.Bits{Mask: top}, Low: 3, High: 9}, api.ErrForm},
		{api.Val{Bits: api.Bits{Mask: top}, Low: 9, High: 3}, api.ErrForm},
		{api.Val{Bits: api.Bits{Value: 1, Mask: 14}, Low: 2, High: 9}, api.ErrForm},
		{api.Val{Bits: api.Bits{Value: 1, Mask: 14}, Low: 3, High: 10}, api.ErrForm},
		{api.Val{Bits: api.Bits{Value: 8, Mask: 7}, Low: 9, High: 10}, api.ErrForm},
		{api.Val{Bits: api.Bits{Value: 8, Mask: 3}, Low: 9, High: 10}, api.OK},
	} {
		if got := Check(c.v); got != c.want {
			t.Errorf("Check(%v) = %d", c.v, got)
		}
	}
}

func TestNorm(t *testing.T) {
	for _, v := range raw() {
		all := numbers(v)
		var want api.Val
		if len(all) > 0 {
			want.Low, want.High = all[0], all[len(all)-1]
			known := same(want.Low, want.High)
			want.Bits = api.Bits{Value: v.Bits.Value | want.Low&known, Mask: v.Bits.Mask &^ known}
		}
		got, is, e := Norm(v)
		if got != want || is != (len(all) > 0) || e != api.OK {
			t.Fatalf("Norm(%v) = %v %v %d, and must be %v", v, got, is, e, want)
		}
		if !is {
			continue
		}
		if Check(got) != api.OK || len(numbers(got)) != len(all) {
			t.Fatalf("Norm(%v) = %v has not the same numbers", v, got)
		}
		if again, is, e := Norm(got); again != got || !is || e != api.OK {
			t.Fatalf("Norm of %v, which is right, is %v %v %d", got, again, is, e)
		}
	}
}

func TestNormWide(t *testing.T) {
	for _, c := range []struct{ v, want api.Val }{
		{api.Val{Bits: api.Bits{Mask: top}, Low: 0, High: top}, Any()},
		{api.Val{Bits: api.Bits{Mask: top}, Low: top, High: top}, Of(top)},
		{api.Val{Bits: api.Bits{Mask: top}, Low: 60, High: 70}, api.Val{Bits: api.Bits{Mask: 127}, Low: 60, High: 70}},
		{api.Val{Bits: api.Bits{Value: 1, Mask: top - 1}, Low: top - 4, High: top}, api.Val{Bits: api.Bits{Value: top - 6, Mask: 6}, Low: top - 4, High: top}},
		{api.Val{Bits: api.Bits{Mask: 1<<63 + 1<<32}, Low: 1, High: top - 1}, api.Val{Bits: api.Bits{Mask: 1<<63 + 1<<32}, Low: 1 << 32, High: 1<<63 + 1<<32}},
		{api.Val{Bits: api.Bits{Value: 1 << 20, Mask: 1<<40 - 1 - 1<<20}, Low: 1<<30 - 1<<20, High: 1<<30 + 5}, api.Val{Bits: api.Bits{Value: 1<<30 - 1<<20, Mask: 1<<20 - 1}, Low: 1<<30 - 1<<20, High: 1<<30 - 1}},
	} {
		if got, is, e := Norm(c.v); got != c.want || !is || e != api.OK {
			t.Errorf("Norm(%v) = %v %v %d, and must be %v", c.v, got, is, e, c.want)
		}
	}
}

// TestExample2: odd numbers from 2 to 10 are those from 3 to 9.
func TestExample2(t *testing.T) {
	got, is, e := Norm(api.Val{Bits: api.Bits{Value: 1, Mask: top - 1}, Low: 2, High: 10})
	want := api.Val{Bits: api.Bits{Value: 1, Mask: 14}, Low: 3, High: 9}
	if got != want || !is || e != api.OK {
		t.Errorf("%v %v %d", got, is, e)
	}
}

func TestNormOfNothing(t *testing.T) {
	for _, v := range []api.Val{
		{Low: 1, High: top},
		{Bits: api.Bits{Mask: top}, Low: 9, High: 3},
		{Bits: api.Bits{Value: 8}, Low: 1, High: 7},
		{Bits: api.Bits{Value: 1, Mask: top - 1}, Low: 4, High: 4},
		{Bits: api.Bits{Value: 1 << 63, Mask: 7}, Low: 0, High: 1<<63 - 1},
		{Bits: api.Bits{Mask: 7}, Low: 8, High: top},
	} {
		if got, is, e := Norm(v); (got != api.Val{}) || is || e != api.OK {
			t.Errorf("Norm(%v) = %v %v %d", v, got, is, e)
		}
	}
}

func TestNormOfWrongBits(t *testing.T) {
	for _, a := range []api.Bits{{Value: 1, Mask: 1}, {Value: top, Mask: 1 << 63}} {
		for _, ends := range [][2]uint64{{0, top}, {1, 1}, {9, 3}} {
			if got, is, e := Norm(api.Val{Bits: a, Low: ends[0], High: ends[1]}); (got != api.Val{}) || is || e != api.ErrForm {
				t.Errorf("Norm of %v is %v %v %d", a, got, is, e)
			}
		}
	}
}

func TestOfAndAny(t *testing.T) {
	for _, x := range []uint64{0, 1, 7, 1 << 63, top} {
		v := Of(x)
		want := api.Val{Bits: api.Bits{Value: x}, Low: x, High: x}
		if v != want || Check(v) != api.OK || !Has(v, x) || Has(v, x+1) || Has(v, x-1) {
			t.Errorf("Of(%d) = %v", x, v)
		}
		if !Has(Any(), x) {
			t.Errorf("Any has not %d", x)
		}
	}
	if want := (api.Val{Bits: api.Bits{Mask: top}, High: top}); Any() != want {
		t.Errorf("Any() = %v", Any())
	}
}

// rights answers right Vals of few bits, low and high ones, and the greatest.
func rights() []api.Val {
	out := []api.Val{Any(), Of(top), Of(1 << 63)}
	for _, v := range raw() {
		if isRight(v) && v.Bits.Mask&1 == 0 {
			out = append(out, v)
		}
	}
	return out
}

func TestInsideAndJoin(t *testing.T) {
	all := rights()
	for _, v := range all {
		for _, w := range all {
			want := bits.Inside(v.Bits, w.Bits) && v.Low >= w.Low && v.High <= w.High
			if Inside(v, w) != want {
				t.Fatalf("Inside(%v, %v) = %v", v, w, !want)
			}
			known, _ := bits.Join(v.Bits, w.Bits)
			joined, _, _ := Norm(api.Val{Bits: known, Low: min(v.Low, w.Low), High: max(v.High, w.High)})
			got, e := Join(v, w)
			if got != joined || e != api.OK {
				t.Fatalf("Join(%v, %v) = %v %d, and must be %v", v, w, got, e, joined)
			}
			if !Inside(v, got) || !Inside(w, got) {
				t.Fatalf("Join(%v, %v) = %v has not all of both", v, w, got)
			}
		}
	}
}

func TestJoinNamed(t *testing.T) {
	odd := api.Val{Bits: api.Bits{Value: 1, Mask: 14}, Low: 3, High: 9}
	for _, c := range []struct{ v, w, want api.Val }{
		{Of(1), Of(3), api.Val{Bits: api.Bits{Value: 1, Mask: 2}, Low: 1, High: 3}},
		{odd, Of(5), odd},
		{Of(11), odd, api.Val{Bits: api.Bits{Value: 1, Mask: 14}, Low: 3, High: 11}},
		{Of(0), Of(top), Any()},
	} {
		if got, e := Join(c.v, c.w); got != c.want || e != api.OK {
			t.Errorf("Join(%v, %v) = %v %d, and must be %v", c.v, c.w, got, e, c.want)
		}
	}
}

func TestWrongVals(t *testing.T) {
	for _, w := range []api.Val{
		{Low: 1},
		{High: 1},
		{Bits: api.Bits{Value: 1, Mask: 1}, Low: 1, High: 1},
		{Bits: api.Bits{Mask: top}, Low: 3, High: 9},
		{Bits: api.Bits{Mask: top}, Low: top, High: 0},
	} {
		for _, c := range [][2]api.Val{{w, Any()}, {Any(), w}, {w, w}} {
			if Inside(c[0], c[1]) {
				t.Errorf("Inside(%v) is true", c)
			}
			if got, e := Join(c[0], c[1]); (got != api.Val{}) || e != api.ErrForm {
				t.Errorf("Join(%v) = %v %d", c, got, e)
			}
		}
		if Check(w) != api.ErrForm || Has(w, w.Low) || Has(w, w.High) {
			t.Errorf("%v is right, or has a number", w)
		}
	}
}

// nearest answers the least number of a from x on, bit by bit from the highest one: as x is as long as it may be.
func nearest(a api.Bits, x uint64) (uint64, bool) {
	if bits.Has(a, x) {
		return x, true
	}
	found, is := uint64(0), false
	for i := uint(0); i < 64; i++ {
		one := uint64(1) << i
		above := ^(one<<1 - 1)
		if x&one != 0 || (a.Value|a.Mask)&one == 0 || (x^a.Value)&^a.Mask&above != 0 {
			continue
		}
		y := x&above | one | a.Value&(one-1)
		if !is || y < found {
			found, is = y, true
		}
	}
	return found, is
}

// TestNormScattered: unknown bits anywhere among the 64.
func TestNormScattered(t *testing.T) {
	d := uint64(1)
	draw := func() uint64 {
		d = d*6364136223846793005 + 1442695040888963407
		return d>>32 | d<<32
	}
	for i := 0; i < 20000; i++ {
		mask := draw()
		if i%2 == 0 {
			mask &= draw() & draw()
		}
		v := api.Val{Bits: api.Bits{Value: draw() &^ mask, Mask: mask}, Low: draw() >> (draw() % 64), High: draw() >> (draw() % 8)}
		low, above := nearest(v.Bits, v.Low)
		high, below := nearest(api.Bits{Value: ^(v.Bits.Value | mask), Mask: mask}, ^v.High)
		high = ^high
		want := above && below && low <= high
		got, is, e := Norm(v)
		if is != want || e != api.OK || is && (got.Low != low || got.High != high || !isRight(got)) {
			t.Fatalf("Norm(%v) = %v %v %d, and must be from %d to %d", v, got, is, e, low, high)
		}
	}
}
