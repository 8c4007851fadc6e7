// Package use tells which registers a step uses: running, states and folding lean on the same.
package use

import "tnumward/api"

// Of answers the registers that a step, which is right, uses (chapter 5): if one of them is not set, it traps.
func Of(i api.Instr) [api.Regs]bool {
	var used [api.Regs]bool
	switch i.Op {
	case api.Jump:
		return used
	case api.Exit:
		used[0] = true
		return used
	case api.Mov, api.Load:
		// What was in Dst ahead of it counts for nothing.
	default:
		used[i.Dst] = true
	}
	if i.Src != api.Const {
		used[i.Src] = true
	}
	return used
}
