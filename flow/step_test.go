package flow

import (
	"math"
	"slices"
	"testing"

	"tnumward/api"
	"tnumward/calc"
	"tnumward/run"
	"tnumward/val"
)

var exit = api.Instr{Op: api.Exit}

// checkStep holds a step against what it must answer.
func checkStep(t *testing.T, i api.Instr, s, behind, there api.State, trap int) {
	t.Helper()
	a, b, got, e := Step(i, s)
	if a != behind || b != there || got != trap || e != api.OK {
		t.Fatalf("Step(%v, %v) = %v, %v, %d %d, and must be %v, %v, %d", i, s, a, b, got, e, behind, there, trap)
	}
	if Check(a) != api.OK || Check(b) != api.OK {
		t.Fatalf("Step(%v, %v) = %v, %v: not right", i, s, a, b)
	}
}

func isReg(r int) bool { return slices.Contains([]int{0, 1, 2, 3, 4, 5}, r) }

// isRight tells, by the words of chapters 4 and 6, whether the fields are as they must be.
func isRight(i api.Instr) bool {
	plain := i.Src == -1 || isReg(i.Src) && i.Imm == 0
	switch {
	case i.Op >= 1 && i.Op <= 9:
		return isReg(i.Dst) && plain && i.Off == 0
	case i.Op == 10 || i.Op == 11:
		return isReg(i.Dst) && isReg(i.Src) && slices.Contains([]uint64{1, 2, 4, 8}, i.Imm) && i.Off >= -64 && i.Off <= 64
	case i.Op == 12:
		return i.Dst == 0 && i.Src == 0 && i.Imm == 0 && i.Off >= 0 && i.Off <= 64
	case i.Op == 13 || i.Op == 14:
		return isReg(i.Dst) && plain && i.Off >= 0 && i.Off <= 64
	}
	return i == exit
}

// steps answers steps of all kinds, with each field in its bounds, at their ends, and out of them.
func steps() []api.Instr {
	var out []api.Instr
	for op := -1; op <= 16; op++ {
		for _, dst := range []int{math.MinInt, -1, 0, 1, 5, 6, math.MaxInt} {
			for _, src := range []int{math.MinInt, -2, -1, 0, 1, 5, 6, math.MaxInt} {
				for _, imm := range []uint64{0, 1, 2, 3, 4, 8, 9, 16, 1<<32 + 1, top} {
					for _, off := range []int{math.MinInt, -65, -64, -1, 0, 1, 62, 63, 64, 65, math.MaxInt} {
						out = append(out, api.Instr{Op: op, Dst: dst, Src: src, Imm: imm, Off: off})
					}
				}
			}
		}
	}
	return out
}

// TestStepForm: of all fields just the right ones go, whatever the right state is.
func TestStepForm(t *testing.T) {
	for _, i := range steps() {
		for _, s := range []api.State{{}, live(), full()} {
			a, b, trap, e := Step(i, s)
			if (e == api.OK) != isRight(i) {
				t.Fatalf("Step(%v, %v): %d", i, s, e)
			}
			nothing := a == api.State{} && b == api.State{} && trap == api.NoTrap
			if e != api.OK && (e != api.ErrForm || !nothing) || !s.Live && !nothing {
				t.Fatalf("Step(%v, %v) = %v, %v, %d %d", i, s, a, b, trap, e)
			}
		}
	}
}

// all answers right steps of all kinds and registers.
func all() []api.Instr {
	out := []api.Instr{exit, {Op: api.Jump}, {Op: api.Jump, Off: 5}}
	for op := api.Mov; op <= api.IfLt; op++ {
		for dst := range api.Regs {
			for src := api.Const; src < api.Regs; src++ {
				i := api.Instr{Op: op, Dst: dst, Src: src}
				switch {
				case op == api.Jump, src == api.Const && (op == api.Load || op == api.Store):
					continue
				case op == api.Load || op == api.Store:
					i.Imm = 4
				case src == api.Const:
					i.Imm = 9
				}
				out = append(out, i)
			}
		}
	}
	return out
}

func TestStepWrongState(t *testing.T) {
	for _, s := range wrongStates() {
		for _, i := range append(all(), api.Instr{}, api.Instr{Op: api.Jump, Off: 65}) {
			if a, b, trap, e := Step(i, s); a != (api.State{}) || b != (api.State{}) || trap != api.NoTrap || e != api.ErrForm {
				t.Fatalf("Step(%v, %v) = %v, %v, %d %d", i, s, a, b, trap, e)
			}
		}
	}
}

func TestStepNotLive(t *testing.T) {
	for _, i := range all() {
		checkStep(t, i, api.State{}, api.State{}, api.State{}, api.NoTrap)
	}
}

// usedOf answers, by the words of chapter 5, what a step uses.
func usedOf(i api.Instr) []int {
	var out []int
	if i.Op != api.Jump && i.Op != api.Exit && i.Src != api.Const {
		out = append(out, i.Src)
	}
	if i.Op >= api.Add && i.Op <= api.Shr || slices.Contains([]int{api.Store, api.IfEq, api.IfLt}, i.Op) {
		out = append(out, i.Dst)
	}
	if i.Op == api.Exit {
		out = append(out, 0)
	}
	return out
}

// TestStepUsed: of all registers that may be set or not, just those that are used trap, wherever the address is.
func TestStepUsed(t *testing.T) {
	for _, i := range all() {
		for set := range 1 << api.Regs {
			for _, v := range []api.Val{val.Of(3), val.Any()} {
				s := live(v, v, v, v, v, v)
				for r := range api.Regs {
					if set>>r&1 == 0 {
						s = unset(s, r)
					}
				}
				if slices.ContainsFunc(usedOf(i), func(r int) bool { return !s.Set[r] }) {
					checkStep(t, i, s, api.State{}, api.State{}, api.TrapReg)
				} else if _, _, trap, e := Step(i, s); trap == api.TrapReg || e != api.OK {
					t.Fatalf("Step(%v, %v): %d %d", i, s, trap, e)
				}
			}
		}
	}
}

// withReg answers s with v put into register r.
func withReg(s api.State, r int, v api.Val) api.State {
	s.Set[r], s.Regs[r] = true, v
	return s
}

// two answers w for Mov, else what chapter 3 has.
func two(op int, v, w api.Val) api.Val {
	if op == api.Mov {
		return w
	}
	x, _ := calc.Two(op, v, w)
	return x
}

func TestReckoning(t *testing.T) {
	for op := api.Mov; op <= api.Shr; op++ {
		for _, v := range vals() {
			for _, w := range vals() {
				s := unset(live(val.Of(2), v, w, span(0, 31), val.Any(), odd(3, 9)), 4)
				checkStep(t, api.Instr{Op: op, Dst: 1, Src: 2}, s, withReg(s, 1, two(op, v, w)), api.State{}, api.NoTrap)
				checkStep(t, api.Instr{Op: op, Dst: 2, Src: 1}, s, withReg(s, 2, two(op, w, v)), api.State{}, api.NoTrap)
				checkStep(t, api.Instr{Op: op, Dst: 1, Src: 1}, s, withReg(s, 1, two(op, v, v)), api.State{}, api.NoTrap)
			}
			for _, x := range []uint64{0, 1, 5, 63, 64, 65, 1 << 63, top} {
				s := unset(live(val.Of(2), v, val.Any()), 0)
				checkStep(t, api.Instr{Op: op, Dst: 1, Src: api.Const, Imm: x}, s, withReg(s, 1, two(op, v, val.Of(x))), api.State{}, api.NoTrap)
			}
		}
	}
}

// TestReckoningWritten: answers written out.
func TestReckoningWritten(t *testing.T) {
	s := live(val.Of(6), span(0, 31))
	checkStep(t, api.Instr{Op: api.Mov, Dst: 3, Src: 1}, s, withReg(s, 3, span(0, 31)), api.State{}, api.NoTrap)
	checkStep(t, api.Instr{Op: api.Mov, Dst: 3, Src: api.Const, Imm: 8}, s, withReg(s, 3, val.Of(8)), api.State{}, api.NoTrap)
	checkStep(t, api.Instr{Op: api.Sub, Dst: 0, Src: api.Const, Imm: 7}, s, withReg(s, 0, val.Of(top)), api.State{}, api.NoTrap)
	checkStep(t, api.Instr{Op: api.Shl, Dst: 1, Src: 0}, s, withReg(s, 1, api.Val{Bits: api.Bits{Mask: 31 << 6}, High: 31 << 6}), api.State{}, api.NoTrap)
	checkStep(t, api.Instr{Op: api.And, Dst: 1, Src: api.Const, Imm: 3}, s, withReg(s, 1, span(0, 3)), api.State{}, api.NoTrap)
}

// bases answers what registers of addresses may be.
func bases() []api.Val {
	out := append(vals(), odd(1, 63), odd(1, 57), span(top-7, top), val.Of(top-63), val.Of(top-64), span(top-63, top))
	for high := uint64(50); high < 70; high++ {
		out = append(out, val.Of(high), span(0, high), span(high-3, high))
	}
	for x := range uint64(5) {
		out = append(out, val.Of(x), val.Of(top-x), span(x, 40), span(x, 64))
	}
	return out
}

func TestReach(t *testing.T) {
	for _, base := range bases() {
		s := unset(live(val.Of(1), base, span(5, 6), val.Any()), 0)
		for off := -api.MaxOff; off <= api.MaxOff; off++ {
			for _, size := range []uint64{1, 2, 4, 8} {
				from, _ := calc.Two(api.Add, base, val.Of(uint64(off)))
				trap, loaded, stored := api.NoTrap, s, s
				if from.High > 64-size {
					trap, loaded, stored = api.TrapMem, api.State{}, api.State{}
				} else {
					loaded = withReg(s, 0, span(0, top>>(64-8*size)))
				}
				checkStep(t, api.Instr{Op: api.Load, Dst: 0, Src: 1, Imm: size, Off: off}, s, loaded, api.State{}, trap)
				checkStep(t, api.Instr{Op: api.Store, Dst: 1, Src: 3, Imm: size, Off: off}, s, stored, api.State{}, trap)
			}
		}
	}
}

// TestReachWritten: answers written out.
func TestReachWritten(t *testing.T) {
	for _, c := range []struct {
		base api.Val
		size uint64
		off  int
		trap int
	}{
		{val.Of(63), 1, 0, api.NoTrap}, {val.Of(64), 1, 0, api.TrapMem}, {val.Of(64), 1, -1, api.NoTrap}, {val.Of(56), 8, 0, api.NoTrap}, {val.Of(57), 8, 0, api.TrapMem},
		{val.Of(0), 1, -1, api.TrapMem}, {val.Of(1), 1, -1, api.NoTrap}, {val.Of(top), 1, 1, api.NoTrap}, {val.Of(top), 1, 0, api.TrapMem}, {val.Of(top), 2, 63, api.NoTrap}, {val.Of(top), 2, 64, api.TrapMem},
		{span(0, 63), 1, 0, api.NoTrap}, {span(0, 63), 1, 1, api.TrapMem}, {span(0, 63), 2, 0, api.TrapMem}, {span(0, 63), 1, -1, api.TrapMem}, {span(1, 63), 1, -1, api.NoTrap},
		{odd(1, 62), 2, 1, api.NoTrap}, {odd(1, 62), 4, 0, api.TrapMem}, {val.Any(), 1, 0, api.TrapMem}, {span(top-3, top), 8, 4, api.NoTrap}, {span(top-3, top), 8, 3, api.TrapMem},
	} {
		s := live(c.base)
		if _, _, trap, e := Step(api.Instr{Op: api.Load, Imm: c.size, Off: c.off}, s); trap != c.trap || e != api.OK {
			t.Errorf("Load of %d at %v and %d: %d %d", c.size, c.base, c.off, trap, e)
		}
		if _, _, trap, e := Step(api.Instr{Op: api.Store, Imm: c.size, Off: c.off}, s); trap != c.trap || e != api.OK {
			t.Errorf("Store of %d at %v and %d: %d %d", c.size, c.base, c.off, trap, e)
		}
	}
	s := live(val.Of(7), val.Any())
	checkStep(t, api.Instr{Op: api.Load, Imm: 2}, s, live(api.Val{Bits: api.Bits{Mask: 65535}, High: 65535}, val.Any()), api.State{}, api.NoTrap)
	checkStep(t, api.Instr{Op: api.Load, Dst: 1, Imm: 8}, live(val.Of(7), val.Of(1)), s, api.State{}, api.NoTrap)
	checkStep(t, api.Instr{Op: api.Store, Dst: 1, Src: 3, Imm: 1}, s, api.State{}, api.State{}, api.TrapReg)
}

type compare func(v, w api.Val) (api.Val, api.Val, bool, api.Errno)

// after answers s with what is left of both put into registers dst and src, or nothing.
func after(s api.State, dst, src int, w api.Val, left compare) api.State {
	v, w, may, _ := left(s.Regs[dst], w)
	if !may {
		return api.State{}
	}
	s.Regs[dst] = v
	if src != api.Const {
		s.Regs[src] = w
	}
	return s
}

func TestBranch(t *testing.T) {
	for op, lefts := range map[int][2]compare{api.IfEq: {calc.Other, calc.Equal}, api.IfLt: {calc.NotLess, calc.Less}} {
		check := func(s api.State, i api.Instr, w api.Val) {
			for _, i.Off = range []int{0, 1, 64} {
				checkStep(t, i, s, after(s, i.Dst, i.Src, w, lefts[0]), after(s, i.Dst, i.Src, w, lefts[1]), api.NoTrap)
			}
		}
		for _, v := range vals() {
			for _, w := range vals() {
				s := unset(live(val.Of(2), v, w, val.Any(), val.Any()), 0)
				check(s, api.Instr{Op: op, Dst: 1, Src: 2}, w)
				check(s, api.Instr{Op: op, Dst: 2, Src: 1}, v)
				check(s, api.Instr{Op: op, Dst: 1, Src: 1}, v)
			}
			for _, x := range []uint64{0, 1, 5, 9, 64, 1 << 63, top} {
				check(live(v, val.Of(8)), api.Instr{Op: op, Dst: 0, Src: api.Const, Imm: x}, val.Of(x))
			}
		}
	}
}

// TestBranchWritten: answers written out.
func TestBranchWritten(t *testing.T) {
	less64 := api.Instr{Op: api.IfLt, Dst: 1, Src: api.Const, Imm: 64, Off: 1}
	checkStep(t, less64, Begin(), withReg(Begin(), 1, span(64, top)), withReg(Begin(), 1, span(0, 63)), api.NoTrap)
	s := live(odd(3, 9), val.Of(6), val.Any())
	checkStep(t, api.Instr{Op: api.IfLt, Dst: 0, Src: 1}, s, withReg(s, 0, odd(7, 9)), withReg(s, 0, odd(3, 5)), api.NoTrap)
	checkStep(t, api.Instr{Op: api.IfLt, Dst: 0, Src: 2}, s, withReg(s, 2, span(0, 9)), withReg(s, 2, span(4, top)), api.NoTrap)
	checkStep(t, api.Instr{Op: api.IfEq, Dst: 0, Src: 1}, s, s, api.State{}, api.NoTrap)
	checkStep(t, api.Instr{Op: api.IfEq, Dst: 2, Src: 1}, s, s, withReg(s, 2, val.Of(6)), api.NoTrap)
	checkStep(t, api.Instr{Op: api.IfEq, Dst: 1, Src: 2}, s, s, withReg(s, 2, val.Of(6)), api.NoTrap)
	checkStep(t, api.Instr{Op: api.IfEq, Dst: 1, Src: api.Const, Imm: 6}, s, api.State{}, s, api.NoTrap)
	checkStep(t, api.Instr{Op: api.IfEq, Dst: 0, Src: api.Const, Imm: 3}, s, withReg(s, 0, odd(5, 9)), withReg(s, 0, val.Of(3)), api.NoTrap)
	checkStep(t, api.Instr{Op: api.IfLt, Dst: 1, Src: 1}, s, s, api.State{}, api.NoTrap)
	// It can't be that one is less than itself, but what is left of each alone is told: first of Dst, then of Src.
	checkStep(t, api.Instr{Op: api.IfLt, Dst: 0, Src: 0}, s, s, withReg(s, 0, odd(4, 9)), api.NoTrap)
	checkStep(t, api.Instr{Op: api.IfLt, Dst: 2, Src: 2}, s, s, withReg(s, 2, span(1, top)), api.NoTrap)
	checkStep(t, api.Instr{Op: api.IfEq, Dst: 0, Src: 0}, s, s, s, api.NoTrap)
}

func TestJumpAndExit(t *testing.T) {
	for _, s := range rightStates()[1:] {
		for _, off := range []int{0, 1, 63, 64} {
			checkStep(t, api.Instr{Op: api.Jump, Off: off}, s, api.State{}, s, api.NoTrap)
		}
		trap := api.NoTrap
		if !s.Set[0] {
			trap = api.TrapReg
		}
		checkStep(t, exit, s, api.State{}, api.State{}, trap)
	}
}

// draw: numbers that are the same each time.
type draw uint64

func (d *draw) n(n int) int {
	*d = *d*6364136223846793005 + 1442695040888963407
	return int(uint64(*d) >> 33 % uint64(n))
}

// word answers one of 64 bits, more often a small one, or one near Top.
func (d *draw) word() uint64 {
	x := uint64(d.n(1<<31))<<33 ^ uint64(d.n(1<<31))<<20 ^ uint64(d.n(1<<20))
	switch d.n(4) {
	case 0:
		return x
	case 1:
		return -(x % 70)
	}
	return x % 70
}

// val answers a right one that has x.
func (d *draw) val(x uint64) api.Val {
	mask := d.word()
	switch d.n(4) {
	case 0:
		mask = 0
	case 1:
		mask = top
	}
	v, _, _ := val.Norm(api.Val{Bits: api.Bits{Value: x &^ mask, Mask: mask}, Low: x - min(x, d.word()), High: x + min(top-x, d.word())})
	return v
}

// pair answers a state and a machine that it has.
func (d *draw) pair() (api.State, api.Machine) {
	s, m := api.State{Live: true}, machine()
	for r := range api.Regs {
		kind := d.n(8)
		if kind == 0 {
			continue
		}
		m.Set[r], m.Regs[r] = true, d.word()
		if r > 0 && d.n(3) == 0 && m.Set[r-1] {
			m.Regs[r] = m.Regs[r-1]
		}
		if kind > 1 {
			s = withReg(s, r, d.val(m.Regs[r]))
		}
	}
	return s, m
}

// step answers one like one of these, with numbers that are drawn.
func (d *draw) step(steps []api.Instr) api.Instr {
	i := steps[d.n(len(steps))]
	switch {
	case i.Op == api.Load || i.Op == api.Store:
		i.Imm, i.Off = 1<<d.n(4), d.n(129)-64
	case i.Op == api.IfEq || i.Op == api.IfLt || i.Op == api.Jump:
		i.Off = d.n(3)
	}
	if i.Op < api.Jump && i.Src == api.Const {
		i.Imm = d.word()
	}
	return i
}

// TestStepHas: what a machine that the state has comes to, the state of where it comes to has; and no trap is left out.
func TestStepHas(t *testing.T) {
	var safe, trapped int
	kinds := all()
	for seed := range uint64(200000) {
		d := draw(seed)
		s, m := d.pair()
		i := d.step(kinds)
		if !Has(s, m) {
			t.Fatalf("%v has not %v", s, m)
		}
		behind, there, trap, e := Step(i, s)
		n, f := run.Step([]api.Instr{i, exit, exit, exit}, m)
		if e != api.OK || f != api.OK {
			t.Fatalf("Step(%v, %v): %d, %d", i, s, e, f)
		}
		if trap != api.NoTrap {
			trapped++
			continue
		}
		safe++
		came := n.At == 1 && i.Op != api.Jump && Has(behind, n) || n.At == 1+i.Off && i.Op >= api.Jump && Has(there, n)
		if i.Op == api.Exit {
			came = n.End == api.Stopped
		}
		if !came {
			t.Fatalf("Step(%v, %v) = %v, %v, but %v comes to %v", i, s, behind, there, m, n)
		}
	}
	if safe < 20000 || trapped < 20000 {
		t.Errorf("%d safe steps, %d trapped: too few were tried", safe, trapped)
	}
}
