package use

import (
	"testing"

	"tnumward/api"
)

// regs answers those of the list.
func regs(list ...int) [api.Regs]bool {
	var out [api.Regs]bool
	for _, r := range list {
		out[r] = true
	}
	return out
}

func TestOf(t *testing.T) {
	for op := api.Mov; op <= api.Shr; op++ {
		own, other, same, constant := regs(2, 3), regs(2, 5), regs(4), regs(2)
		if op == api.Mov {
			own, other, constant = regs(3), regs(5), regs()
		}
		check(t, api.Instr{Op: op, Dst: 2, Src: 3}, own)
		check(t, api.Instr{Op: op, Dst: 2, Src: 5}, other)
		check(t, api.Instr{Op: op, Dst: 4, Src: 4}, same)
		check(t, api.Instr{Op: op, Dst: 2, Src: api.Const, Imm: 3}, constant)
	}
	check(t, api.Instr{Op: api.Load, Dst: 2, Src: 3, Imm: 1}, regs(3))
	check(t, api.Instr{Op: api.Load, Dst: 2, Src: 2, Imm: 1}, regs(2))
	check(t, api.Instr{Op: api.Store, Dst: 2, Src: 3, Imm: 1}, regs(2, 3))
	check(t, api.Instr{Op: api.Jump}, regs())
	for _, op := range []int{api.IfEq, api.IfLt} {
		check(t, api.Instr{Op: op, Dst: 2, Src: 3}, regs(2, 3))
		check(t, api.Instr{Op: op, Dst: 2, Src: api.Const, Imm: 3}, regs(2))
	}
	check(t, api.Instr{Op: api.Exit}, regs(0))
}

func check(t *testing.T, i api.Instr, want [api.Regs]bool) {
	t.Helper()
	if got := Of(i); got != want {
		t.Errorf("Of(%v) = %v, and must be %v", i, got, want)
	}
}
