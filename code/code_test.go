package code

import (
	"math"
	"slices"
	"strings"
	"testing"

	"tnumward/api"
)

const top = uint64(api.Top)

var exit = api.Instr{Op: api.Exit}

// long answers a program of n steps.
func long(n int) []api.Instr {
	l := make([]api.Instr, n)
	for k := range l {
		l[k] = api.Instr{Op: api.Jump}
	}
	l[n-1] = exit
	return l
}

func TestCheckMany(t *testing.T) {
	for _, n := range []int{1, 2, 63, 64} {
		if e := Check(long(n)); e != api.OK {
			t.Errorf("%d steps: %d", n, e)
		}
	}
	for _, l := range [][]api.Instr{nil, {}, long(65), long(1000), make([]api.Instr, 65)} {
		if e := Check(l); e != api.ErrMany {
			t.Errorf("%d steps: %d", len(l), e)
		}
	}
}

func TestCheckKind(t *testing.T) {
	for _, op := range []int{math.MinInt, -1, 0, 16, 17, math.MaxInt} {
		for _, l := range [][]api.Instr{{{Op: op}, exit}, {exit, {Op: op}, exit}, {exit, {Op: op}}} {
			if e := Check(l); e != api.ErrKind {
				t.Errorf("%v: %d", l, e)
			}
		}
	}
}

// fieldsOf tells, of each operation, the table's fields: a register, a register or Const, any number, how many bytes, an address's Off, a jump's.
func fieldsOf(op int) string {
	switch {
	case op >= api.Mov && op <= api.Shr:
		return "Dst Source Number"
	case op == api.Load || op == api.Store:
		return "Dst Src Size Address"
	case op == api.Jump:
		return "Further"
	case op == api.IfEq || op == api.IfLt:
		return "Dst Source Number Further"
	}
	return ""
}

// wrongOf answers what the chapter says of a step that has so many behind it.
func wrongOf(i api.Instr, behind int) api.Errno {
	if i.Op < 1 || i.Op > 15 {
		return api.ErrKind
	}
	left := i // less what there may be
	for _, f := range strings.Fields(fieldsOf(i.Op)) {
		var ok bool
		switch f {
		case "Dst":
			ok, left.Dst = slices.Contains([]int{0, 1, 2, 3, 4, 5}, i.Dst), 0
		case "Src":
			ok, left.Src = slices.Contains([]int{0, 1, 2, 3, 4, 5}, i.Src), 0
		case "Source":
			ok, left.Src = slices.Contains([]int{-1, 0, 1, 2, 3, 4, 5}, i.Src), 0
		case "Number":
			ok = true
			if i.Src == -1 {
				left.Imm = 0
			}
		case "Size":
			ok, left.Imm = slices.Contains([]uint64{1, 2, 4, 8}, i.Imm), 0
		case "Address":
			ok, left.Off = i.Off >= -64 && i.Off <= 64, 0
		case "Further":
			ok, left.Off = i.Off >= 0 && i.Off <= behind-1, 0
		}
		if !ok {
			return api.ErrRange
		}
	}
	left.Op = 0
	if (left != api.Instr{}) {
		return api.ErrForm
	}
	return api.OK
}

// steps answers steps of all kinds, with each field in its bounds, at their ends, and out of them.
func steps() []api.Instr {
	var out []api.Instr
	for op := -1; op <= 16; op++ {
		for _, dst := range []int{math.MinInt, -2, -1, 0, 1, 5, 6, math.MaxInt} {
			for _, src := range []int{math.MinInt, -2, -1, 0, 1, 5, 6, math.MaxInt} {
				for _, imm := range []uint64{0, 1, 2, 3, 4, 5, 7, 8, 9, 16, 1 << 32, 1<<32 + 1, top} {
					for _, off := range []int{math.MinInt, -65, -64, -1, 0, 1, 2, 3, 61, 62, 63, 64, 65, math.MaxInt - 1, math.MaxInt} {
						out = append(out, api.Instr{Op: op, Dst: dst, Src: src, Imm: imm, Off: off})
					}
				}
			}
		}
	}
	return out
}

func TestCheckStep(t *testing.T) {
	for _, behind := range []int{1, 2, 3, 63} {
		l := long(behind + 1)
		for _, i := range steps() {
			l[0] = i
			if e := Check(l); e != wrongOf(i, behind) {
				t.Fatalf("%v, %d behind it: %d, and must be %d", i, behind, e, wrongOf(i, behind))
			}
		}
	}
}

// TestCheckLast: what stands last must be an Exit, and a bare one.
func TestCheckLast(t *testing.T) {
	for _, i := range steps() {
		want := wrongOf(i, 0)
		if want == api.OK && i.Op != api.Exit {
			want = api.ErrForm
		}
		if e := Check([]api.Instr{{Op: api.Mov}, i}); e != want {
			t.Fatalf("%v at the end: %d, and must be %d", i, e, want)
		}
	}
}

// TestCheckOrder: of several errors the one named first, wherever it is.
func TestCheckOrder(t *testing.T) {
	kind, bounds, form := api.Instr{Op: 16, Dst: 9}, api.Instr{Op: api.Mov, Dst: 6, Off: 1}, api.Instr{Op: api.Mov, Imm: 1}
	for _, c := range []struct {
		want api.Errno
		l    []api.Instr
	}{
		{api.ErrKind, []api.Instr{kind, bounds, form}},
		{api.ErrKind, []api.Instr{form, bounds, kind}},
		{api.ErrKind, []api.Instr{bounds, kind, exit}},
		{api.ErrRange, []api.Instr{form, bounds, exit}},
		{api.ErrRange, []api.Instr{bounds, form, exit}},
		{api.ErrRange, []api.Instr{form, form, bounds}},
		{api.ErrRange, []api.Instr{{Op: api.Jump, Dst: 1, Off: 1}, exit}},
		{api.ErrRange, []api.Instr{{Op: api.Jump, Off: 1}, form}},
		{api.ErrForm, []api.Instr{exit, form}},
		{api.ErrMany, append(long(65), kind, bounds, form)},
	} {
		if e := Check(c.l); e != c.want {
			t.Errorf("%v: %d, and must be %d", c.l, e, c.want)
		}
	}
}

type shownCase struct {
	text string
	l    []api.Instr
}

// shown answers programs with each operation, at the edges of its fields, and their texts.
func shown() []shownCase {
	all := []shownCase{
		{"exit\n", []api.Instr{exit}},
		{"exit\nexit\n", []api.Instr{exit, exit}},
		{"mov r0 r5\nmov r5 0\nmov r1 18446744073709551615\nexit\n", []api.Instr{{Op: api.Mov, Src: 5}, {Op: api.Mov, Dst: 5, Src: api.Const}, {Op: api.Mov, Dst: 1, Src: api.Const, Imm: top}, exit}},
		{"load 1 r0 r5 64\nload 2 r5 r0 -64\nload 4 r1 r2 0\nload 8 r3 r4 -1\nexit\n", []api.Instr{{Op: api.Load, Src: 5, Imm: 1, Off: 64}, {Op: api.Load, Dst: 5, Imm: 2, Off: -64}, {Op: api.Load, Dst: 1, Src: 2, Imm: 4}, {Op: api.Load, Dst: 3, Src: 4, Imm: 8, Off: -1}, exit}},
		{"store 1 r0 64 r5\nstore 2 r5 -64 r0\nstore 4 r1 0 r2\nstore 8 r3 -1 r4\nexit\n", []api.Instr{{Op: api.Store, Src: 5, Imm: 1, Off: 64}, {Op: api.Store, Dst: 5, Imm: 2, Off: -64}, {Op: api.Store, Dst: 1, Src: 2, Imm: 4}, {Op: api.Store, Dst: 3, Src: 4, Imm: 8, Off: -1}, exit}},
		{"jump 2\njump 1\njump 0\nexit\n", []api.Instr{{Op: api.Jump, Off: 2}, {Op: api.Jump, Off: 1}, {Op: api.Jump}, exit}},
		{"ifeq r1 r2 1\nifeq r3 10 0\nexit\n", []api.Instr{{Op: api.IfEq, Dst: 1, Src: 2, Off: 1}, {Op: api.IfEq, Dst: 3, Src: api.Const, Imm: 10}, exit}},
		{"iflt r1 64 1\niflt r0 r0 0\nexit\n", []api.Instr{{Op: api.IfLt, Dst: 1, Src: api.Const, Imm: 64, Off: 1}, {Op: api.IfLt}, exit}},
		{"jump 62\n" + strings.Repeat("jump 0\n", 62) + "exit\n", append([]api.Instr{{Op: api.Jump, Off: 62}}, long(63)...)},
	}
	for n, name := range []string{"mov", "add", "sub", "mul", "and", "or", "xor", "shl", "shr"} {
		all = append(all, shownCase{name + " r1 r2\n" + name + " r3 100\nexit\n", []api.Instr{{Op: 1 + n, Dst: 1, Src: 2}, {Op: 1 + n, Dst: 3, Src: api.Const, Imm: 100}, exit}})
	}
	return all
}

func TestShow(t *testing.T) {
	for _, c := range shown() {
		if s, e := Show(c.l); s != c.text || e != api.OK {
			t.Errorf("Show(%v) = %q %d, and must be %q", c.l, s, e, c.text)
		}
	}
}

func TestShowWrong(t *testing.T) {
	for _, i := range steps() {
		for _, l := range [][]api.Instr{{i, exit, exit}, {i}} {
			if want := Check(l); want != api.OK {
				if s, e := Show(l); s != "" || e != want {
					t.Fatalf("Show(%v) = %q %d, and must be %d", l, s, e, want)
				}
			}
		}
	}
	for _, l := range [][]api.Instr{nil, long(65)} {
		if s, e := Show(l); s != "" || e != api.ErrMany {
			t.Errorf("Show of %d steps = %q %d", len(l), s, e)
		}
	}
}

// TestKept: what is handed in is as it was, and what comes out is another's each time.
func TestKept(t *testing.T) {
	for _, c := range shown() {
		room := append(slices.Clone(c.l), api.Instr{Op: 77}, api.Instr{Op: 78})
		l := room[:len(c.l)]
		Check(l)
		Show(l)
		if !slices.Equal(room, append(slices.Clone(c.l), api.Instr{Op: 77}, api.Instr{Op: 78})) {
			t.Fatalf("%v was changed to %v", c.l, room)
		}
		a, _ := Read(c.text)
		clear(a)
		if b, e := Read(c.text); e != api.OK || !slices.Equal(b, c.l) {
			t.Fatalf("Read(%q) again = %v %d", c.text, b, e)
		}
	}
}
