package flow

import (
	"tnumward/api"
	"tnumward/calc"
	"tnumward/code"
	"tnumward/use"
	"tnumward/val"
)

// Step answers what may be ahead of the step behind i, and ahead of the one where i jumps to, or the trap.
func Step(i api.Instr, s api.State) (api.State, api.State, int, api.Errno) {
	if !isStep(i) || Check(s) != api.OK {
		return api.State{}, api.State{}, api.NoTrap, api.ErrForm
	}
	if !s.Live {
		return api.State{}, api.State{}, api.NoTrap, api.OK
	}
	if trap := trapOf(i, s); trap != api.NoTrap {
		return api.State{}, api.State{}, trap, api.OK
	}
	behind, there := goOn(i, s)
	return behind, there, api.NoTrap, api.OK
}

// isStep tells whether the fields of i are as chapter 4 has them, wherever it may stand.
func isStep(i api.Instr) bool {
	switch i.Op {
	case api.Jump, api.IfEq, api.IfLt:
		if i.Off < 0 || i.Off > api.MaxCode {
			return false
		}
		// How far it goes is checked with that; the program below has no step so far off.
		i.Off = 0
	}
	return code.Check([]api.Instr{i, {Op: api.Exit}}) == api.OK
}

// trapOf answers the trap that i may come to in s, which is Live.
func trapOf(i api.Instr, s api.State) int {
	for r, used := range use.Of(i) {
		if used && !s.Set[r] {
			return api.TrapReg
		}
	}
	switch i.Op {
	case api.Load:
		return reach(i, s.Regs[i.Src])
	case api.Store:
		return reach(i, s.Regs[i.Dst])
	}
	return api.NoTrap
}

// reach answers the trap of a Load or a Store at what base may be.
func reach(i api.Instr, base api.Val) int {
	from, _ := calc.Two(api.Add, base, val.Of(uint64(i.Off)))
	if from.High > api.MemSize-i.Imm {
		return api.TrapMem
	}
	return api.NoTrap
}

// goOn answers the states behind i, and where it jumps to; in s, which is Live, it does not trap.
func goOn(i api.Instr, s api.State) (behind, there api.State) {
	switch i.Op {
	case api.Load:
		bytes, _ := calc.Bytes(int(i.Imm))
		return with(s, i.Dst, bytes), api.State{}
	case api.Store:
		return s, api.State{}
	case api.Jump:
		return api.State{}, s
	case api.IfEq:
		return left(i, s, calc.Other), left(i, s, calc.Equal)
	case api.IfLt:
		return left(i, s, calc.NotLess), left(i, s, calc.Less)
	case api.Exit:
		return api.State{}, api.State{}
	case api.Mov:
		return with(s, i.Dst, source(i, s)), api.State{}
	}
	v, _ := calc.Two(i.Op, s.Regs[i.Dst], source(i, s))
	return with(s, i.Dst, v), api.State{}
}

// left answers s with what compare leaves of both that i holds against each other, or a zero state, if it can't be so.
func left(i api.Instr, s api.State, compare func(v, w api.Val) (api.Val, api.Val, bool, api.Errno)) api.State {
	v, w, may, _ := compare(s.Regs[i.Dst], source(i, s))
	if !may {
		return api.State{}
	}
	s = with(s, i.Dst, v)
	if i.Src != api.Const {
		s = with(s, i.Src, w)
	}
	return s
}

// source answers what Src may be.
func source(i api.Instr, s api.State) api.Val {
	if i.Src == api.Const {
		return val.Of(i.Imm)
	}
	return s.Regs[i.Src]
}
